import Derived.Test.YtieooapcfpimlaaGreatDoorL22
import Derived.Test.YtieooapcfpimlaaGreatDoorL21
namespace Go.Proofs.YtieooapcfpimlaaGreatDoor
set_option maxHeartbeats 4000000
set_option maxRecDepth 100000
open Go.Proofs.Tryz
open Pl (PV PW PS PF SR AE A2 B0 AH BH A4 AW A8)
section
open Go.RowKit
variable {m t k:Nat}
theorem aAJ(W:PW)(S:PS)(s:AE)(a b:PV):(Pl.reckon W S s a b).e<=12:=by
 unfold Pl.reckon;split
 ·split
  ·simp
  ·split
   ·simp
   ·rename_i x y _ _;dsimp only;generalize (if s=BH then x+y else if s=A4 then x-y else x*y)=n;by_cases h:n.natAbs<=Pl.CG
    ·rw [if_pos h];simp
    ·rw [if_neg h];simp
 ·simp
theorem Y7(W:PW)(S:PS)(s:AE)(a:PV):(B0 W S s a).e<=12:=by
 unfold B0;split
 ·dsimp only;split<;>simp
 ·split
  ·split
   ·split<;>simp
   ·simp
  ·split<;>simp
theorem Y6(W:PW)(S:PS)(s:AE)(a b:PV):(A2 W S s a b).e<=12:=by
 unfold A2;split
 ·simp
 ·split
  ·simp
  ·exact aAJ W S s a b
theorem rG(W:PW)(S:PS)(f:PV)(args:List PV):(AH W S f args).e<=12:=by
 unfold AH;split
 ·split
  ·split<;>simp
  ·simp
 ·split<;>simp
 ·split
  ·simp
  ·split
   ·exact Y7 _ _ _ _
   ·exact Y6 _ _ _ _ _
   ·simp
 ·simp
theorem Y8(W:PW)(S:PS)(f:PV)(args:List PV):(Pl.apply W S f args).e<=12:=by
 unfold Pl.apply;split
 ·split
  ·dsimp only;split<;>exact rG _ _ _ _
  ·simp
 ·exact rG _ _ _ _
theorem Y5(W:PW)(S:PS):(Pl.taken W S).e<=12:=by
 unfold Pl.taken;split
 ·simp
 ·dsimp only;split
  ·simp
  ·split<;>simp
  ·simp
  ·simp
  ·split
   ·split
    ·simp
    ·exact Y8 _ _ _ _
   ·simp
theorem e_step(W:PW)(S:PS):(Pl.step W S).e<=12:=by
 unfold Pl.step;split
 ·exact Y5 W S
 ·split
  ·simp
  ·split<;>simp
  ·simp
  ·simp
  ·simp
theorem eY{S:PS}(h:S.ended=true):S.form=none:=by unfold Pl.PS.ended at h;simp at h;exact h.1
theorem mA:∀(n:Nat)(W:PW)(S:PS)(t:Nat),WW W t->SW W S t->(A8 n W S).e<=12/\WW (A8 n W S).W (t+310*n)/\((A8 n W S).e=0->(A8 n W S).S.form=none/\BL (A8 n W S).W (A8 n W S).S.val)
 | 0,W,S,t,a,c=>by
  unfold A8;split
  ·rename_i b;exact⟨Nat.zero_le _,a,fun _=>⟨eY b,c.val (eY b)⟩⟩
  ·exact⟨by simp,a,fun e=>by cases e⟩
 | n+1,W,S,t,a,c=>by
  unfold A8;split
  ·rename_i b;exact⟨Nat.zero_le _,a.later (by omega),fun _=>⟨eY b,c.val (eY b)⟩⟩
  ·have d:=jQ a c;dsimp only;split
   ·rename_i f;obtain⟨g,h,i⟩:=mA n _ _ (t+310) d.2.1 (d.2.2 f);exact⟨g,h.later (by omega),i⟩
   ·rename_i f;exact⟨e_step W S,d.2.1.later (by omega),fun e=>absurd e f⟩
structure OV(W:PW)(m:Nat):Prop where
 pairs:W.pairs.length<=m
 globals:W.globals.length<=m
 AG:∀l∈W.AG,l.length<=m
structure Sm(W:PW)(S:PS)(m:Nat):Prop where
 w:OV W m
 AB:S.AB.length<=m
theorem OV.mono{W:PW}(h:OV W m)(a:m<=k):OV W k:=⟨t_ h.pairs a,t_ h.globals a,fun l b=>t_ (h.AG l b) a⟩
theorem Sm.mono{W:PW}{S:PS}(h:Sm W S m)(a:m<=k):Sm W S k:=⟨h.w.mono a,t_ h.AB a⟩
theorem Sm.up{W:PW}{S:PS}(h:Sm W S m):Sm W S (m+1):=h.mono (Nat.le_succ _)
theorem Sm.A1{W:PW}{S:PS}(h:Sm W S m)(v:PV):Sm W (S.A1 v) m:=⟨h.w,h.AB⟩
def K_(r:SR)(m:Nat):Prop:=Sm r.W r.S m
theorem p7(W:PW)(S:PS)(s:AE)(a b:PV)(h:Sm W S m):K_ (Pl.reckon W S s a b) m:=by
 unfold Pl.reckon;split
 ·split
  ·exact h.A1 _
  ·split
   ·exact h.A1 _
   ·rename_i x y _ _;dsimp only;generalize (if s=BH then x+y else if s=A4 then x-y else x*y)=n;by_cases c:n.natAbs<=Pl.CG
    ·rw [if_pos c];exact h.A1 _
    ·rw [if_neg c];exact h
 ·exact h
theorem aAR(W:PW)(S:PS)(s:AE)(a:PV)(h:Sm W S m):K_ (B0 W S s a) m:=by
 unfold B0;split
 ·dsimp only;split
  ·exact⟨⟨h.w.pairs,h.w.globals,h.w.AG⟩,h.AB⟩
  ·exact h
 ·split
  ·split
   ·split
    ·exact h.A1 _
    ·exact h
   ·exact h
  ·split
   ·exact h.A1 _
   ·exact h.A1 _
theorem SQ(W:PW)(S:PS)(s:AE)(a b:PV)(h:Sm W S m):K_ (A2 W S s a b) (m+1):=by
 unfold A2;split
 ·exact⟨⟨by show(W.pairs++[(a,b)]).length<=_;have:=h.w.pairs;simp;omega,(h.up).w.globals,(h.up).w.AG⟩,h.up.AB⟩
 ·split
  ·exact h.up.A1 _
  ·exact Sm.up (p7 W S s a b h)
theorem cG(W:PW)(S:PS)(f:PV)(args:List PV)(h:Sm W S m):K_ (AH W S f args) (m+1):=by
 unfold AH;split
 ·split
  ·split
   ·exact h.up
   ·exact⟨⟨h.up.w.pairs,h.up.w.globals,h.up.w.AG⟩,h.up.AB⟩
  ·exact h.up
 ·rename_i i;split
  ·refine⟨h.up.w,?_⟩;show(W.AG[i]?.getD []).length<=_
   cases a:W.AG[i]? with
   | none=>exact Nat.zero_le _
   | some l=>exact h.up.w.AG l (q_ a)
  ·exact h.up
 ·split
  ·exact h.up
  ·split
   ·exact Sm.up (aAR W S _ _ h)
   ·exact SQ W S _ _ _ h
   ·exact h.up
 ·exact h.up
theorem Sm.keep{W:PW}{S:PS}(h:Sm W S m):Sm (W.keep S) S m :=
 ⟨⟨h.w.pairs,h.w.globals,fun l a=>by
  rcases List.mem_append.1 (show l∈W.AG++[S.AB] from a) with a | a
  ·exact h.w.AG l a
  ·rw [List.mem_singleton.1 a];exact h.AB⟩,h.AB⟩
theorem aAS(W:PW)(S:PS)(f:PV)(args:List PV)(h:Sm W S m):K_ (Pl.apply W S f args) (m+1):=by
 unfold Pl.apply;split
 ·split
  ·dsimp only;split
   ·exact cG _ _ _ _ h.keep.keep
   ·exact cG _ _ _ _ h.keep
  ·exact h.up
 ·exact cG W S f args h
theorem WS(W:PW)(s:AE)(v:PV)(h:OV W m):OV (Pl.bind W s v) (m+1):=by
 unfold Pl.bind;split
 ·exact⟨Nat.le_succ_of_le h.pairs,Nat.le_succ_of_le h.globals,fun l a=>Nat.le_succ_of_le (h.AG l a)⟩
 ·exact⟨Nat.le_succ_of_le h.pairs,by show(W.globals++[(s,W.places.length)]).length<=_;have:=h.globals;simp;omega,fun l a=>Nat.le_succ_of_le (h.AG l a)⟩
theorem SP(W:PW)(S:PS)(h:Sm W S m):K_ (Pl.taken W S) (m+1):=by
 unfold Pl.taken;split
 ·exact h.up
 ·rename_i d a c;have e:a.length+1<=m:=by have:=h.AB;rw [c] at this;simpa using this
  have b:Sm W {S with AB:=a} m:=⟨h.w,by show a.length<=m;omega⟩
  dsimp only;split
  ·exact⟨b.up.w,b.up.AB⟩
  ·split
   ·exact⟨⟨b.up.w.pairs,b.up.w.globals,b.up.w.AG⟩,b.up.AB⟩
   ·exact b.up
  ·exact⟨WS W _ _ h.w,b.up.AB⟩
  ·split
   ·exact⟨h.up.w,by show(_::a).length<=_;simp;omega⟩
   ·exact⟨b.up.w,b.up.AB⟩
  ·split
   ·split
    ·exact b.up
    ·exact aAS _ _ _ _ b
   ·exact⟨h.up.w,by show(_::a).length<=_;simp;omega⟩
theorem ML(W:PW)(S:PS)(h:Sm W S m):K_ (Pl.step W S) (m+1):=by
 have a:=h.AB;unfold Pl.step;split
 ·exact SP W S h
 ·split
  ·exact h.up.A1 _
  ·split
   ·exact h.up.A1 _
   ·exact h.up
  ·exact⟨⟨h.up.w.pairs,h.up.w.globals,h.up.w.AG⟩,h.up.AB⟩
  ·split
   ·exact⟨h.up.w,by show(_::S.AB).length<=_;simp;omega⟩
   ·exact⟨h.up.w,h.up.AB⟩
  ·exact⟨h.up.w,by show(_::S.AB).length<=_;simp;omega⟩
theorem p9:∀(n:Nat)(W:PW)(S:PS)(m:Nat),Sm W S m->K_ (A8 n W S) (m+n)
 | 0,W,S,m,h=>by
  unfold A8;split
  ·exact h
  ·exact h
 | n+1,W,S,m,h=>by
  have a:=ML W S h;unfold A8;split
  ·exact h.mono (Nat.le_add_right _ _)
  ·dsimp only;split
   ·have:=p9 n _ _ (m+1) a
    rwa [show m+1+n=m+(n+1) from by omega] at this
   ·exact Sm.mono a (by omega)
theorem aC2{W:PW}(h:WW W t):OU W:=⟨h.KV,h.CH⟩
theorem NM{W:PW}{i:AE}{f:PF}(b:WW W t)(h:OV W m)(c:Pl.check i=0)(d:Pl.BQ i=some f):Sm (Pl.AR W f) (Pl.AV W f) (m+1000):=by obtain⟨e,a⟩:=lN c d;have:=(mQ e a.1 a.2 W t b).2;refine⟨⟨?_,t_ h.globals (by omega),fun l g=>t_ (h.AG l g) (by omega)⟩,Nat.zero_le _⟩;show(W.pairs++(Pl.settle f W.pairs.length).2).length<=_;have:=h.pairs;rw [a_];omega
theorem ans_sm{W:PW}(i:AE×Int)(a:WW W t)(h:OV W m):∃e,WW (Pl.answer W i).1 e/\OV (Pl.answer W i).1 (m+1001000):=by
 unfold Pl.answer;split
 ·exact⟨t,a,h.mono (by omega)⟩
 ·rename_i c;split
  ·exact⟨t,a,h.mono (by omega)⟩
  ·rename_i g;split
   ·exact⟨t,a,h.mono (by omega)⟩
   ·rename_i f d;have b:Pl.check i.1=0:=by simpa using g
    obtain⟨j,k⟩:=lN b d;obtain⟨l,n⟩:=rI j k a;have o:=p9 i.2.toNat _ _ _ (NM a h b d);have p:i.2.toNat<=1000000:=by unfold Pl.over at c;simp at c;omega
    exact⟨_,(mA _ _ _ _ l n).2.1,OV.mono (Sm.w o) (by omega)⟩
theorem O2(l:List (AE×Int)):∀(W:PW)(t m:Nat),WW W t->OV W m->∃a,WW (Pl.AF W l).1 a/\OV (Pl.AF W l).1 (m+1001000*l.length):=by
 induction l with
 | nil=>exact fun W t m b h=>⟨t,b,h⟩
 | cons i r c =>intro W t m b h;obtain⟨d,e,f⟩:=ans_sm i b h;obtain⟨a,g,j⟩:=c _ d _ e f;refine⟨a,g,j.mono ?_⟩;rw [c_,Nat.mul_succ];omega
theorem zM(W:PW)(S:PS)(s:AE)(a b:PV):(Pl.reckon W S s a b).W.out=W.out:=by
 unfold Pl.reckon;split
 ·split
  ·rfl
  ·split
   ·rfl
   ·rename_i x y _ _;dsimp only;generalize (if s=BH then x+y else if s=A4 then x-y else x*y)=n;by_cases h:n.natAbs<=Pl.CG
    ·rw [if_pos h]
    ·rw [if_neg h]
 ·rfl
theorem XU(W:PW)(S:PS)(s:AE)(a b:PV):(A2 W S s a b).W.out=W.out:=by
 unfold A2;split
 ·rfl
 ·split
  ·rfl
  ·exact zM W S s a b
theorem XV(W:PW)(S:PS)(s:AE)(a:PV)(h:W.out.length<=1000):(B0 W S s a).W.out.length<=1000:=by
 unfold B0;split
 ·dsimp only;split
  ·rename_i b;simpa using b
  ·exact h
 ·split
  ·split
   ·split<;>exact h
   ·exact h
  ·split<;>exact h
theorem l6(W:PW)(S:PS)(f:PV)(args:List PV)(h:W.out.length<=1000):(AH W S f args).W.out.length<=1000:=by
 unfold AH;split
 ·split
  ·split<;>exact h
  ·exact h
 ·split<;>exact h
 ·split
  ·exact h
  ·split
   ·exact XV W S _ _ h
   ·rw [XU];exact h
   ·exact h
 ·exact h
theorem XW(W:PW)(S:PS)(f:PV)(args:List PV)(h:W.out.length<=1000):(Pl.apply W S f args).W.out.length<=1000:=by
 unfold Pl.apply;split
 ·split
  ·dsimp only;split
   ·exact l6 _ _ _ _ h
   ·exact l6 _ _ _ _ h
  ·exact h
 ·exact l6 W S f args h
theorem o_bind(W:PW)(s:AE)(v:PV):(Pl.bind W s v).out=W.out:=by unfold Pl.bind;split<;>rfl
theorem XT(W:PW)(S:PS)(h:W.out.length<=1000):(Pl.taken W S).W.out.length<=1000:=by
 unfold Pl.taken;split
 ·exact h
 ·dsimp only;split
  ·exact h
  ·split<;>exact h
  ·rw [o_bind];exact h
  ·exact h
  ·split
   ·split
    ·exact h
    ·exact XW _ _ _ _ h
   ·exact h
theorem aDH(W:PW)(S:PS)(h:W.out.length<=1000):(Pl.step W S).W.out.length<=1000:=by
 unfold Pl.step;split
 ·exact XT W S h
 ·split
  ·exact h
  ·split<;>exact h
  ·exact h
  ·exact h
  ·exact h
def J2(n:Nat)(W:PW)(S:PS):Prop:=W.out.length<=1000/\∃t,WW W t/\SW W S t/\∃m,Sm W S m/\m+n<=6500000000000000000
theorem wF{n:Nat}{W:PW}{S:PS}(h:J2 (n+1) W S):(Pl.step W S).e≠7/\(Pl.step W S).W.out.length<=1000/\((Pl.step W S).e=0->(Pl.step W S).S.ended=true\/J2 n (Pl.step W S).W (Pl.step W S).S):=by obtain⟨b,t,c,d,m,f,g⟩:=h;have a:=jQ c d;exact⟨a.1,aDH W S b,fun e=>.inr ⟨aDH W S b,_,a.2.1,a.2.2 e,m+1,ML W S f,by omega⟩⟩
theorem aDO{n:Nat}{W:PW}{S:PS}(h:J2 (n+1) W S)(e:(Pl.step W S).e=0):J2 n (Pl.step W S).W (Pl.step W S).S:=by obtain⟨b,t,c,d,m,f,g⟩:=h;have a:=jQ c d;exact⟨aDH W S b,_,a.2.1,a.2.2 e,m+1,ML W S f,by omega⟩
theorem aAU{n:Int}(h:Pl.over n=false):n.toNat<=1000000:=by unfold Pl.over at h;simp at h;omega
theorem aDN{W:PW}{i:AE×Int}(a:WW W t)(g:OV W m)(p:m+1001000<=6500000000000000000)(f:PF)(h:Pl.over i.2=false)(b:Pl.check i.1=0)(c:Pl.BQ i.1=some f):J2 i.2.toNat (Pl.AR W f) (Pl.AV W f)/\OU (A8 i.2.toNat (Pl.AR W f) (Pl.AV W f)).W/\((A8 i.2.toNat (Pl.AR W f) (Pl.AV W f)).e=0->(A8 i.2.toNat (Pl.AR W f) (Pl.AV W f)).S.form=none/\BL (A8 i.2.toNat (Pl.AR W f) (Pl.AV W f)).W (A8 i.2.toNat (Pl.AR W f) (Pl.AV W f)).S.val):=by obtain⟨j,k⟩:=lN b c;obtain⟨d,e⟩:=rI j k a;have l:=NM a g b c;have q:=aAU h;obtain⟨_,n,o⟩:=mA i.2.toNat _ _ _ d e;exact⟨⟨Nat.zero_le _,_,d,e,_,l,by omega⟩,aC2 n,o⟩
theorem Tryz.YL:(prog.info? 34).map (fun i=>(i.zero,i.size,i.bytes))=some (some (.agg #[.int .i64 0,.string ⟨#[]⟩,.string ⟨#[]⟩]),3,40):=by kernel_rfl
def B5(i:ByteArray×Int):AE×Int:=(i.1.data.toList,i.2)
def F8(w:World)(v:Value)(ins:List (ByteArray×Int)):Prop:=∃ao cap,v=.slice ao ins.length cap/\ins.length<=cap/\∀(k:Nat)(i:ByteArray×Int),ins[k]?=some i->∃g,ao=some ⟨g,0,none⟩/\g<w.heap.size/\w.cell? ⟨g,k*2,none⟩=some (.string i.1)/\w.cell? ⟨g,k*2+1,none⟩=some (.int .i64 i.2)
theorem iI{ins:List (ByteArray×Int)}{i:ByteArray×Int}(h:ins[k]?=some i):Pl.AF AW ((ins.take (k+1)).map B5)=((Pl.answer (Pl.AF AW ((ins.take k).map B5)).1 (B5 i)).1,(Pl.AF AW ((ins.take k).map B5)).2++[(Pl.answer (Pl.AF AW ((ins.take k).map B5)).1 (B5 i)).2]):=by rw [List.take_add_one,h,Option.toList_some,List.map_append,List.map_cons,List.map_nil,Pl.I7]
end
open Pl (PO)
section
open Go.RowKit Go.Lib Go.Maps
def ZU(tb mb sb gb:Nat):Prop:=∀(M:Nat->Prop)(w:World)(s:Sg)(t m:Nat)(W:PW)(b:ByteArray)(n:Int),Wd M w s tb mb sb gb W->WW W t->OV W m->m+1001000<=6500000000000000000->s.ns.length+300<=BS ->
 Calls prog 18 #[.iface 40 (.pointer (some ⟨sb,0,none⟩)),.agg #[.string b,.int .i64 n],.pointer (some ⟨tb,0,none⟩)] w fun e w'=>AnsP M w s tb mb sb gb (Pl.answer W (b.data.toList,n)) e w'
theorem set3at{X:World}{R o:Nat}{cur:Array Value}{T:TypeId}(h:X.heap[R]?=some (.cells cur T (0,0)))(c:o+2<cur.size):∃d e f,X.cell? ⟨R,o,none⟩=some d/\X.frozen? ⟨R,o,none⟩=false /\
  (∀a:Value,(X.setCell ⟨R,o,none⟩ a).cell? ⟨R,o+1,none⟩=some e/\(X.setCell ⟨R,o,none⟩ a).frozen? ⟨R,o+1,none⟩=false) /\
  (∀a b:Value,((X.setCell ⟨R,o,none⟩ a).setCell ⟨R,o+1,none⟩ b).cell? ⟨R,o+2,none⟩=some f/\((X.setCell ⟨R,o,none⟩ a).setCell ⟨R,o+1,none⟩ b).frozen? ⟨R,o+2,none⟩=false):=by
 refine⟨cur[o]'(by omega),cur[o+1]'(by omega),cur[o+2]'c,(aA h o).trans (Array.getElem?_eq_getElem _),aF h o,fun a=>⟨?_,aF (aD h o a) _⟩,fun a b=>⟨?_,aF (aD (aD h o a) (o+1) b) _⟩⟩
 ·rw [aA (aD h o a) (o+1),Array.getElem?_setIfInBounds,if_neg (by omega)];exact Array.getElem?_eq_getElem _
 ·rw [aA (aD (aD h o a) (o+1) b) (o+2),Array.getElem?_setIfInBounds,if_neg (by omega),Array.getElem?_setIfInBounds,if_neg (by omega)];exact Array.getElem?_eq_getElem _
def aL3(w:World)(R o:Nat)(po:PO):World:=((w.setCell ⟨R,o,none⟩ (.int .i64 (po.code:Int))).setCell ⟨R,o+1,none⟩ (.string ⟨po.out.toArray⟩)).setCell ⟨R,o+2,none⟩ (.string ⟨po.val.toArray⟩)
structure VD(M0:Nat->Prop)(w0:World)(s0:Sg)(wr:World)(M:Nat->Prop)(s:Sg)(tb mb sb gb g:Nat)(ins:List (ByteArray×Int))(k:Nat):Prop where
 wd:Wd M wr s tb mb sb gb (Pl.AF AW ((ins.take k).map B5)).1
 AQ:Stp M0 w0 M wr
 ns:s.ns.length<=313+300*k
 le:Sg.Le s0 s/\LP w0 s0 s
 ng:¬M g
 gw:w0.heap.size<=g
 row:∃cur,wr.heap[g]?=some (.cells cur FZ (0,0))/\cur.size=ins.length*3/\∀(j:Nat)(o:PO),(Pl.AF AW ((ins.take k).map B5)).2[j]?=some o->cur[j*3]?=some (.int .i64 (o.code:Int))/\cur[j*3+1]?=some (.string ⟨o.out.toArray⟩)/\cur[j*3+2]?=some (.string ⟨o.val.toArray⟩)
theorem VD.next{M0 M M2:Nat->Prop}{w0 wr w2:World}{D s n:Sg}{tb mb sb gb g k:Nat}{ins:List (ByteArray×Int)}{i:ByteArray×Int}{o1:Obj}(h:VD M0 w0 D wr M s tb mb sb gb g ins k)(hi:ins[k]?=some i)(H:8<=w0.heap.size)
  (E:Stp M (wr.alloc o1) M2 w2) (I:n.ns.length<=s.ns.length+300) (F:Sg.Le s n/\LP (wr.alloc o1) s n) (J:Wd M2 w2 n tb mb sb gb (Pl.answer (Pl.AF AW ((ins.take k).map B5)).1 (B5 i)).1) :
  VD M0 w0 D (aL3 w2 g (k*3) (Pl.answer (Pl.AF AW ((ins.take k).map B5)).1 (B5 i)).2) M2 n tb mb sb gb g ins (k+1):=by
 have u:n.ns.length<=313+300*(k+1):=t_ I (t_ (Nat.add_le_add_right h.ns 300) (Nat.le_of_eq (by rw [Nat.mul_succ,Nat.add_assoc])));obtain⟨v,G,K,L⟩:=h.row;have w:=aB G;have N:=(s_ hi).1;have y:Below wr.heap.size wr (wr.alloc o1):=b_;obtain⟨O,P⟩:=((Stp.AA (M:=M) y).trans E).block g w h.ng;have p:=O.trans G;generalize z:(Pl.answer (Pl.AF AW ((ins.take k).map B5)).1 (B5 i)).2=d;have f:w2.grownBy (aL3 w2 g (k*3) d) (some g):=aC (aC (aE w2 g _ _) (aE _ g _ _)) (aE _ g _ _);have a:=h.AQ.trans ((Stp.AA (M:=M) y).trans E);have A:=h.gw;have l:(Pl.AF AW ((ins.take k).map B5)).2.length=k:=by rw [Pl.PP,List.length_map,List.length_take];omega
 have m:∀j,j<w0.heap.size->j<w2.heap.size:=fun j b=>l_ b a.size
 have q:LH w2 (aL3 w2 g (k*3) d):=by
  refine⟨f.size,fun j x b Q=>(f.block j (aB b) (fun e=>?_)).trans b,fun j b=>f.block j (m j (by omega)) (fun e=>?_)⟩
  ·have:=i_ e;subst this;rw [p] at b;exact Q v FZ _ (.inl rfl) (i_ b).symm
  ·have:=i_ e;omega
 have r:Stp M0 w0 M2 (aL3 w2 g (k*3) d):=by refine⟨f.os.trans a.os,f.tape.trans a.tape,f.output.trans a.output,t_ a.size f.size,fun j b R=>?_⟩;obtain⟨S,T⟩:=a.block j b R;exact⟨(f.block j (m j b) (fun e=>by have:=i_ e;omega)).trans S,T⟩
 have B:Wd M2 (aL3 w2 g (k*3) d) n tb mb sb gb (Pl.AF AW ((ins.take (k+1)).map B5)).1:=by rw [iI hi];exact J.FQ q
 have t:=aD (aD (aD p (k*3) (.int .i64 (d.code:Int))) (k*3+1) (.string ⟨d.out.toArray⟩)) (k*3+2) (.string ⟨d.val.toArray⟩);refine⟨B,r,u,⟨h.le.1.trans F.1,h.le.2.trans F.2 (t_ h.AQ.size y.size)⟩,P,A,_,t,by simpa using K,fun j o b=>?_⟩
 ·rw [iI hi,z] at b;have c:((Pl.AF AW ((ins.take k).map B5)).2++[d])[j]?=some o:=b;simp only [Array.getElem?_setIfInBounds,Array.size_setIfInBounds];rcases Nat.lt_trichotomy j k with C | rfl | C
  ·rw [List.getElem?_append_left (by omega)] at c;obtain⟨U,V,W⟩:=L j o c;refine⟨?_,?_,?_⟩
   ·rw [if_neg (by omega),if_neg (by omega),if_neg (by omega)];exact U
   ·rw [if_neg (by omega),if_neg (by omega),if_neg (by omega)];exact V
   ·rw [if_neg (by omega),if_neg (by omega),if_neg (by omega)];exact W
  ·rw [List.getElem?_append_right (by omega),l,Nat.sub_self] at c;obtain rfl:d=o:=i_ c;refine⟨?_,?_,?_⟩
   ·rw [if_neg (by omega),if_neg (by omega),if_pos rfl,if_pos (by omega)]
   ·rw [if_neg (by omega),if_pos rfl,if_pos (by omega)]
   ·rw [if_pos rfl,if_pos (by omega)]
  ·rw [List.getElem?_append_right (by omega),l,List.getElem?_eq_none (by simp;omega)] at c
   cases c
end
section
open Go.RowKit
def FG:TypeId:=25
theorem Tryz.YM:(prog.info? 25).map (fun i=>(i.zero,i.size,i.bytes))=some (some (.agg #[.string ⟨#[]⟩,.int .i64 0]),2,24):=by kernel_rfl
def iL(i:ByteArray×Int):List Value:=[.string i.1,.int .i64 i.2]
def JF(w:World)(v:Value)(ins:List (ByteArray×Int)):Prop:=∃ao cap,v=.slice ao ins.length cap/\ins.length<=cap/\∀(k:Nat)(i:ByteArray×Int),ins[k]?=some i->∃g off,ao=some ⟨g,off,none⟩/\g<w.heap.size/\w.cell? ⟨g,off+k*2,none⟩=some (.string i.1)/\w.cell? ⟨g,off+k*2+1,none⟩=some (.int .i64 i.2)
def KB(w:World)(v:Value)(l:List PO):Prop:=∃ao cap,v=.slice ao l.length cap/\l.length<=cap/\∀(k:Nat)(o:PO),l[k]?=some o->∃g,ao=some ⟨g,0,none⟩/\g<w.heap.size/\w.cell? ⟨g,k*3,none⟩=some (.int .i64 (o.code:Int))/\w.cell? ⟨g,k*3+1,none⟩=some (.string ⟨o.out.toArray⟩)/\w.cell? ⟨g,k*3+2,none⟩=some (.string ⟨o.val.toArray⟩)
end
section
open Go.RowKit Go.Lib Go.Maps
variable {k:Nat}
theorem VD.out{M0 M:Nat->Prop}{w0 wr:World}{d s:Sg}{tb mb sb gb g:Nat}{ins:List (ByteArray×Int)}(h:VD M0 w0 d wr M s tb mb sb gb g ins ins.length):KB wr (.slice (some ⟨g,0,none⟩) ins.length ins.length) (Pl.AF AW (ins.map B5)).2:=by
 obtain⟨e,a,_,b⟩:=h.row;have c:(Pl.AF AW (ins.map B5)).2.length=ins.length:=by rw [Pl.PP,List.length_map]
 rw [List.take_length] at b;refine⟨some ⟨g,0,none⟩,ins.length,by rw [c],by rw [c];exact n_,fun k o f=>?_⟩;obtain⟨i,j,l⟩:=b k o f;exact⟨g,rfl,aB a,(aA a _).trans i,(aA a _).trans j,(aA a _).trans l⟩
theorem scr_in{w:World}{v:Value}{ins:List (ByteArray×Int)}(h:F8 w v ins):JF w v ins:=by obtain⟨b,a,e,c,d⟩:=h;refine⟨b,a,e,c,fun k i f=>?_⟩;obtain⟨g,j,l,m,n⟩:=d k i f;exact⟨g,0,j,l,by rw [Nat.zero_add];exact m,by rw [Nat.zero_add];exact n⟩
theorem aBY{w w1:World}{M M1:Nat->Prop}{v:Value}{ins:List (ByteArray×Int)}(h:JF w v ins)(f:Stp M w M1 w1)(q:∀k,¬M k):JF w1 v ins/\(ins≠[]->∀g b n c,v=.slice (some ⟨g,b,none⟩) n c->¬M1 g):=by
 obtain⟨y,j,e,z,s⟩:=h;refine⟨⟨y,j,e,z,fun k i l=>?_⟩,fun m g b n c o=>?_⟩
 ·obtain⟨g,b,p,d,A,B⟩:=s k i l;have t:=(f.block g d (q g)).1;exact⟨g,b,p,l_ d f.size,(World.cell?_of_block (w:=w) t).trans A,(World.cell?_of_block (w:=w) t).trans B⟩
 ·obtain⟨i,l⟩:∃i,ins[0]?=some i:=by
   cases ins with
   | nil=>exact absurd rfl m
   | cons a r=>exact⟨a,rfl⟩
  obtain⟨u,x,p,d,_⟩:=s 0 i l;rw [e,p] at o;simp only [Value.slice.injEq,o_,Addr.mk.injEq,and_true] at o;obtain rfl:=o.1.1;exact(f.block u d (q u)).2
def GK:Nat:=5870000000000
theorem SV(ins:List (ByteArray×Int))(b:k<=ins.length):∃t,WW (Pl.AF AW ((ins.take k).map B5)).1 t/\OV (Pl.AF AW ((ins.take k).map B5)).1 (13+1001000*k):=by have:=O2 ((ins.take k).map B5) AW 13 13 vP ⟨by decide,by decide,fun l a=>by have e:Pl.AW.AG=[]:=rfl;rw [e] at a;cases a⟩;rw [List.length_map,List.length_take,Nat.min_eq_left b] at this;exact this
theorem sm_fits{n:Nat}(b:k<=n)(a:n<=GK):13+1001000*k+1001000<=6500000000000000000:=by unfold GK at a;omega
theorem aLJ{a n:Nat}(h:a<=313+300*k)(c:k<=n)(b:n<=GK):a+300<=BS:=by unfold BS;unfold GK at b;omega
theorem p_runS(l:Nat->Prop)(w:World)(m:Sg)(tb mb h u:Nat)(v:Value)(ins:List (ByteArray×Int))(hA:ZU tb mb h u)(hW:Wd l w m tb mb h u AW)(E:m.ns.length<=313)(hS:JF w v ins)(F:ins≠[]->∀g a n c,v=.slice (some ⟨g,a,none⟩) n c->¬l g)(G:ins.length<=GK) :Calls prog 14 #[.iface 40 (.pointer (some ⟨h,0,none⟩)),v,.pointer (some ⟨tb,0,none⟩)] w fun e O=>∃S M' s',e=.returned S/\VD l w m O M' s' tb mb h u w.heap.size ins ins.length/\KB O S (Pl.AF AW (ins.map B5)).2/\S=.slice (some ⟨w.heap.size,0,none⟩) ins.length ins.length:=by
 obtain⟨i0,T,U,V,W⟩:=info_parts Tryz.YL;have HA:=h_ hA;have P:Hid (Wd l w m tb mb h u AW/\m.ns.length<=313):=⟨hW,E⟩
 obtain⟨ao,ak,rfl,ag,p⟩:=hS
 have HC:=(show Hid (∀(k:Nat)(i:ByteArray×Int),ins[k]?=some i->∃g a,ao=some ⟨g,a,none⟩/\g<w.heap.size/\¬l g/\w.cell? ⟨g,a+k*2,none⟩=some (.string i.1)/\w.cell? ⟨g,a+k*2+1,none⟩=some (.int .i64 i.2)) from fun k i B=>by
  obtain⟨g,a,e,H,X,Y⟩:=p k i B
  exact⟨g,a,e,H,F (fun e0=>by rw [e0] at B;cases B) g a _ _ (by rw [e]),X,Y⟩)
 have ah:¬((ins.length:Int)<0):=by omega
 have HL:=h_ G;have hL:ins.length<=5870000000000:=G;clear hA hW p F E G;go_enter func14,ntmps14;go_wp2_with (first | (at_make;refine wpList_make_full _ rfl _ _ 30 rfl w.heap.size 34 i0 (.agg #[.int .i64 0,.string ⟨#[]⟩,.string ⟨#[]⟩]) 3 underlying30 T U V .i64 .i64 (ins.length:Int) (ins.length:Int) ins.length rfl rfl rfl rfl (by rw [W];omega) (by unfold maxLen;omega) n_ ?_;intro w1 q f))
 have C:Hid (VD l w m w1 l m tb mb h u w.heap.size ins 0):=by
  have I:Below w.heap.size w w1:=cS f;refine⟨P.1.mv (Mv.below I),Stp.AA I,P.2,⟨Sg.Le.refl _,LP.refl _ _⟩,fun hm=>Nat.lt_irrefl _ (P.1.CY.mlt _ hm),n_,?_⟩;rcases q.2 with⟨Q,_⟩ | ⟨g,ai,d,Q,_,Z,_,_,aa,_⟩
  ·cases Q
  ·simp only [Value.slice.injEq,o_,Addr.mk.injEq,true_and,and_true] at Q;obtain⟨e1,e2⟩:=Q;subst e1;subst e2;exact⟨d,Z,aa,fun j o hj=>by simp [Pl.AF] at hj⟩
 clear q f
 go_loopw [15] (fun i wr=>∃(k:Nat)(y:Nat->Prop)(z:Sg),k<=ins.length/\i=.int .i64 (k:Int)/\Hid (VD l w m wr y z tb mb h u w.heap.size ins k)) (fun i _=>ins.length-(RowKit.intOf i).toNat)
 case atStart=>exact⟨0,l,m,Nat.zero_le _,rfl,C⟩
 case round =>
  obtain⟨k,y,z,hk,rfl,x⟩:=hrel;by_cases ab:k<ins.length
  ·obtain⟨i,B⟩:∃i,ins[k]?=some i:=⟨ins[k],g_ ab⟩
   obtain⟨g,a,rfl,Z,ac,J,K⟩:=HC.out k i B;have D:=(x.AQ.block g Z ac).1;have c0:wr.cell? ⟨g,a+k*2,none⟩=some (.string i.1):=(World.cell?_of_block (w:=w) D).trans J;have c1:wr.cell? ⟨g,a+k*2+1,none⟩=some (.int .i64 i.2):=(World.cell?_of_block (w:=w) D).trans K;have HX:=h_ B
   have L:=(show Hid (∀o:Obj,Calls prog 18 #[.iface 40 (.pointer (some ⟨h,0,none⟩)),.agg #[.string i.1,.int .i64 i.2],.pointer (some ⟨tb,0,none⟩)] (wr.alloc o) fun e O=>AnsP y (wr.alloc o) z tb mb h u (Pl.answer (Pl.AF AW ((ins.take k).map B5)).1 (B5 i)) e O) from fun o=>by
    obtain⟨t,ad,ae⟩:=SV ins hk
    exact HA.out y (wr.alloc o) z t _ _ i.1 i.2 (x.wd.mv (Mv.below b_)) ad ae (sm_fits hk HL) (aLJ x.ns hk HL))
   have HN:Hid (∀(o:Obj)(r:World)(s:Nat->Prop)(A:Sg),Stp y (wr.alloc o) s r->A.ns.length<=z.ns.length+300->(Sg.Le z A/\LP (wr.alloc o) z A)->Wd s r A tb mb h u (Pl.answer (Pl.AF AW ((ins.take k).map B5)).1 (B5 i)).1->VD l w m (aL3 r w.heap.size (k*3) (Pl.answer (Pl.AF AW ((ins.take k).map B5)).1 (B5 i)).2) s A tb mb h u w.heap.size ins (k+1)):=fun o r s A H X G Y=>x.next HX P.1.gs.size H X G Y
   have HB:=(show Hid (∀(o:Obj)(r:World)(s:Nat->Prop),Stp y (wr.alloc o) s r->∃d,r.heap[w.heap.size]?=some (.cells d FZ (0,0))/\k*3+2<d.size) from fun o r s H=>by
    obtain⟨d,N,R,_⟩:=x.row;have hB:Below wr.heap.size wr (wr.alloc o):=b_
    exact⟨d,(((Stp.AA (M:=y) hB).trans H).block _ (aB N) x.ng).1.trans N,by rw [R];omega⟩)
   have aj:(k:Int)<(ins.length:Int):=by omega
   obtain⟨b,n⟩:=i;dsimp only at c0 c1 L;clear B J K D x C;go_wp2_with (go_at_call 18;refine(L _).mono ?_;rintro e r ⟨rfl,s,A,k1,kl,k3,k4⟩;obtain⟨d,N,R⟩:=HB.out _ r s k1;obtain⟨x0,x1,x2,t0,u0,r1,r2⟩:=set3at N R;have af:=(show Hid (VD _ _ _ _ _ _ _ _ _ _ _ _ _) from HN.out _ r s A k1 k3 kl k4);clear k1 kl k3 k4 N R HN;generalize (Pl.answer (Pl.AF AW ((ins.take k).map B5)).1 (B5 (b,n))).2=po at *;unfold aggO)
   go_roundw
   case rel=>exact⟨k+1,s,A,by omega,by go_num,af⟩
   case measure=>simp [RowKit.intOf];omega
  ·obtain rfl:k=ins.length:=by omega
   have HO:=(show Hid (KB wr (.slice (some ⟨w.heap.size,0,none⟩) ins.length ins.length) (Pl.AF AW (ins.map B5)).2/\VD l w m wr y z tb mb h u w.heap.size ins ins.length) from⟨x.out.out,x⟩)
   clear x C;go_wp2_with fail;go_ret;exact⟨_,y,z,rfl,HO.2,HO.1,rfl⟩
end
section
open Go.RowKit
variable {z k:Nat}
theorem pM:∀{a:List (ByteArray×Int)} {k:Nat} {i:ByteArray×Int},a[k]?=some i->(a.flatMap iL)[k*2]?=some (.string i.1)/\(a.flatMap iL)[k*2+1]?=some (.int .i64 i.2)
 | [],_,_,h=>by simp at h
 | x::r,0,i,h=>by simp only [List.getElem?_cons_zero,o_] at h;subst h;simp [iL]
 | x::r,k+1,i,h=>by rw [List.getElem?_cons_succ] at h;obtain⟨b,c⟩:=pM h;rw [List.flatMap_cons,show(k+1)*2=k*2+1+1 from by omega];exact⟨by simpa [iL] using b,by simpa [iL] using c⟩
theorem scr_of{w:World}{base:Nat}{v:Value}{ins:List (ByteArray×Int)}(h:w.ownsRow base FG 2 v ins.length (ins.flatMap iL)):F8 w v ins:=by
 rcases h.2 with⟨a,d⟩ | ⟨g,c,e,a,_,f,j,_,_,l⟩
 ·have:ins=[]:=e_ d;subst this;exact⟨none,0,a,n_,fun k i b=>by simp at b⟩
 ·refine⟨some ⟨g,0,none⟩,c,a,j,fun k i b=>⟨g,rfl,aB f,?_,?_⟩⟩
  ·have:=h.cells (g:=g) (by rw [a];rfl) (k*2) (.string i.1) (pM b).1
   rwa [Addr.add_lit,Nat.zero_add] at this
  ·have:=h.cells (g:=g) (by rw [a];rfl) (k*2+1) (.int .i64 i.2) (pM b).2
   rwa [Addr.add_lit,Nat.zero_add] at this
inductive Gos (W0:PW) (S0:PS) (z:Nat):Nat->PW->PS->Prop
 | nil:Gos W0 S0 z 0 W0 S0
 | snoc (k:Nat) (W W':PW) (S S':PS) (h:Gos W0 S0 z k W S) (hn:S.ended=false) (hs:Pl.step W S=⟨0,W',S'⟩) (ho:z<=k->W'.out=W.out):Gos W0 S0 z (k+1) W' S'
theorem aLR{n:Nat}{W W':PW}{S S':PS}(a:S.ended=false)(b:Pl.step W S=⟨0,W',S'⟩):A8 (n+1) W S=A8 n W' S':=by simp [A8,a,b]
theorem Gos.on{a W:PW}{b S:PS}(h:Gos a b z k W S):k<=z->A8 z a b=A8 (z-k) W S:=by
 induction h with
 | nil=>intro _;rfl
 | snoc k W f S g h c d i e =>intro j;rw [e (by omega),show z-k=(z-(k+1))+1 from by omega];exact aLR c d
theorem Gos.off{c W:PW}{d S:PS}(h:Gos c d z k W S):z<k->∃a b,A8 z c d=⟨7,a,b⟩/\a.out=W.out:=by
 induction h with
 | nil=>intro h;omega
 | snoc k W n S o h g p e i =>
  intro q;rcases Nat.lt_or_ge z k with f | f
  ·obtain⟨a,b,j,l⟩:=i f;exact⟨a,b,j,l.trans (e (by omega)).symm⟩
  ·have m:k=z:=by omega
   subst m;refine⟨W,S,?_,(e n_).symm⟩;rw [h.on n_,Nat.sub_self];simp [A8,g]
theorem Gos.spent{a W:PW}{b S:PS}(h:Gos a b z k W S)(e:S.ended=false)(i:z<=k):∃c f,A8 z a b=⟨7,c,f⟩/\c.out=W.out:=by
 rcases Nat.lt_or_ge z k with d | d
 ·exact h.off d
 ·have g:k=z:=by omega
  subst g;refine⟨W,S,?_,rfl⟩;rw [h.on n_,Nat.sub_self];simp [A8,e]
theorem Gos.done{a W:PW}{b S:PS}(h:Gos a b z k W S)(c:S.ended=true)(d:k<=z):A8 z a b=⟨0,W,S⟩:=by
 rw [h.on d]
 cases z-k<;>simp [A8,c]
theorem Gos.err{a W:PW}{b S:PS}(h:Gos a b z k W S)(c:S.ended=false)(d:(Pl.step W S).e≠0)(e:k<z):A8 z a b=Pl.step W S:=by rw [h.on (by omega),show z-k=(z-k-1)+1 from by omega];simp [A8,c,d]
structure At(W0:PW)(S0:PS)(z T k:Nat)(W:PW)(S:PS):Prop where
 go:Gos W0 S0 z k W S
 inv:J2 (T-k) W S
 le:k<=T
theorem At.next{b W W':PW}{c S S':PS}{T:Nat}(h:At b c z T k W S)(e:S.ended=false)(a:Pl.step W S=⟨0,W',S'⟩)(f:z<=k->W'.out=W.out)(g:k<T):At b c z T (k+1) W' S':=by refine⟨.snoc k W W' S S' h.go e a f,?_,g⟩;have d:=h.inv;rw [show T-k=(T-(k+1))+1 from by omega] at d;have:=aDO d (by rw [a]);rw [a] at this;exact this
end
section
theorem aM0{W:PW}{t m T:Nat}{i:AE×Int}(n:T=i.2.toNat+5000)(a:WW W t)(e:OV W m)(o:m+1011000<=6500000000000000000)(f:PF)(g:Pl.over i.2=false)(b:Pl.check i.1=0)(c:Pl.BQ i.1=some f):J2 T (Pl.AR W f) (Pl.AV W f)/\i.2.toNat<=1000000/\IU (Pl.settle f W.pairs.length).1<=1001:=by obtain⟨h,j⟩:=lN b c;obtain⟨k,d⟩:=rI h j a;have l:=NM a e b c;have p:=aAU g;refine⟨⟨Nat.zero_le _,_,k,d,_,l,?_⟩,?_,(d.form _ rfl).nd⟩<;>omega
end
section
variable {n:Int}
namespace Pl
def aJR(i:AE×Int):PO:=if over i.2 then⟨6,[],[]⟩ else if check i.1≠0 then⟨check i.1,[],[]⟩ else⟨7,[],[]⟩
def fans(X:PW×Bool)(i:AE×Int):(PW×Bool)×PO:=if X.2 then(X,aJR i) else(((answer X.1 i).1,decide ((answer X.1 i).2.code=7)),(answer X.1 i).2)
def fses:PW×Bool->List (AE×Int)->(PW×Bool)×List PO
 | X,[]=>(X,[])
 | X,i::r=>((fses (fans X i).1 r).1,(fans X i).2::(fses (fans X i).1 r).2)
theorem fses_snoc:∀(l:List (AE×Int)) (X:PW×Bool) (i:AE×Int),fses X (l++[i])=((fans (fses X l).1 i).1,(fses X l).2++[(fans (fses X l).1 i).2])
 | [],_,_=>rfl
 | x::l,X,i=>by simp only [List.cons_append,fses,fses_snoc l]
theorem fses_len:∀(l:List (AE×Int)) (X:PW×Bool),(fses X l).2.length=l.length
 | [],_=>rfl
 | x::l,X=>by simp [fses,fses_len l]
theorem fses_same:∀(l:List (AE×Int)) (W:PW),(∀o∈(AF W l).2,o.code≠7)->fses (W,false) l=(((AF W l).1,false),(AF W l).2)
 | [],_,_=>rfl
 | i::r,W,h=>by
  have a:(answer W i).2.code≠7:=h _ (by simp [AF]);have e:fans (W,false) i=(((answer W i).1,false),(answer W i).2):=by unfold fans;rw [if_neg (by simp),decide_eq_false a]
  have b:=fses_same r (answer W i).1 (fun o c=>h o (by simp [AF,c]));simp only [fses,e,AF,b]
theorem aM8(a:AE):check a≠7:=by
 unfold check
 repeat' split
 all_goals decide
theorem fans_over{X:PW×Bool}{b:AE}(h:over n=true):fans X (b,n)=(X,⟨6,[],[]⟩):=by
 obtain⟨W,a⟩:=X
 cases a
 ·simp [fans,answer,h]
 ·simp [fans,aJR,h]
theorem fans_check{X:PW×Bool}{b:AE}(h:over n=false)(a:check b≠0):fans X (b,n)=(X,⟨check b,[],[]⟩):=by
 obtain⟨W,c⟩:=X;have d:=aM8 b
 cases c
 ·simp [fans,answer,h,a,d]
 ·simp [fans,aJR,h,a]
theorem fans_spent{W:PW}{b:AE}(h:over n=false)(a:check b=0):fans (W,true) (b,n)=((W,true),⟨7,[],[]⟩):=by simp [fans,aJR,h,a]
theorem aM6{W:PW}{b:AE}{f:PF}(h:over n=false)(a:check b=0)(c:BQ b=some f):fans (W,false) (b,n)=(((A8 n.toNat (AR W f) (AV W f)).W,decide ((A8 n.toNat (AR W f) (AV W f)).e=7)),told (A8 n.toNat (AR W f) (AV W f))):=by
 have e:answer W (b,n)=((A8 n.toNat (AR W f) (AV W f)).W,told (A8 n.toNat (AR W f) (AV W f))):=by unfold answer;dsimp only;rw [if_neg (by simp [h]),if_neg (by simp [a]),c]
 unfold fans;rw [if_neg (by simp)];dsimp only;rw [e];rfl
theorem fans_runN{W:PW}{b:AE}{k:Nat}{f:PF}(h:over (k:Int)=false)(a:check b=0)(c:BQ b=some f):fans (W,false) (b,(k:Int))=(((A8 k (AR W f) (AV W f)).W,decide ((A8 k (AR W f) (AV W f)).e=7)),told (A8 k (AR W f) (AV W f))):=aM6 h a c
end Pl
theorem n_up{N d k:Nat}(a:d<=1001)(b:k<=1000000):N+d+(k+5000)<=N+1010000:=by rw [Nat.add_assoc];exact Nat.add_le_add_left (t_ (Nat.add_le_add a (Nat.add_le_add_right b 5000)) (by decide)) N
theorem fans_sm{X:Pl.PW×Bool}{t m:Nat}(i:Pl.AE×Int)(a:WW X.1 t)(h:OV X.1 m):∃b,WW (Pl.fans X i).1.1 b/\OV (Pl.fans X i).1.1 (m+1001000):=by
 unfold Pl.fans;split
 ·exact⟨t,a,h.mono (by omega)⟩
 ·exact ans_sm i a h
theorem fses_sm(l:List (Pl.AE×Int)):∀(X:Pl.PW×Bool)(t m:Nat),WW X.1 t->OV X.1 m->∃a,WW (Pl.fses X l).1.1 a/\OV (Pl.fses X l).1.1 (m+1001000*l.length):=by
 induction l with
 | nil=>exact fun X t m b h=>⟨t,b,h⟩
 | cons i r c =>intro X t m b h;obtain⟨d,e,f⟩:=fans_sm i b h;obtain⟨a,g,j⟩:=c _ d _ e f;refine⟨a,g,j.mono ?_⟩;rw [c_,Nat.mul_succ];omega
end
section
def fsX(ins:List (ByteArray×Int))(k:Nat):(PW×Bool)×List PO:=Pl.fses (AW,false) ((ins.take k).map B5)
theorem aM2{ins:List (ByteArray×Int)}{k:Nat}{i:ByteArray×Int}(h:ins[k]?=some i):fsX ins (k+1)=((Pl.fans (fsX ins k).1 (B5 i)).1,(fsX ins k).2++[(Pl.fans (fsX ins k).1 (B5 i)).2]):=by unfold fsX;rw [List.take_add_one,h,Option.toList_some,List.map_append,List.map_cons,List.map_nil,Pl.fses_snoc]
theorem fsX_len(ins:List (ByteArray×Int)){k:Nat}(a:k<=ins.length):(fsX ins k).2.length=k:=by unfold fsX;rw [Pl.fses_len,List.length_map,List.length_take];omega
end
end Go.Proofs.YtieooapcfpimlaaGreatDoor
