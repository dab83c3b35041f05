import Derived.Test.YtkgbdddkcjpgfaaGreatDoorC30
import Derived.Test.YtkgbdddkcjpgfaaGreatDoorC15
import Derived.Test.YtkgbdddkcjpgfaaGreatDoorC24
import Derived.Test.YtkgbdddkcjpgfaaGreatDoorC25
import Derived.Test.YtkgbdddkcjpgfaaGreatDoorC14
import Derived.Test.YtkgbdddkcjpgfaaGreatDoorC29
namespace Go.Proofs.YtkgbdddkcjpgfaaGreatDoor
open Go.Proofs.Tryz
open Pl (PV PW PS PF SR Byt PO prim2 prim1 applyB plusW minusW newW goOn)
section
open Go.RowKit
variable {m k t:Nat}
theorem aAJ(W:PW)(S:PS)(s:Byt)(a b:PV):(Pl.reckon W S s a b).e<=12:=by
 unfold Pl.reckon;split
 ·split
  ·simp
  ·split
   ·simp
   ·rename_i x y _ _;dsimp only;generalize (if s=plusW then x+y else if s=minusW then x-y else x*y)=n;by_cases h:n.natAbs<=Pl.big
    ·rw [if_pos h];simp
    ·rw [if_neg h];simp
 ·simp
theorem e_prim1(W:PW)(S:PS)(s:Byt)(a:PV):(prim1 W S s a).e<=12:=by
 unfold prim1;split
 ·dsimp only;split<;>simp
 ·split
  ·split
   ·split<;>simp
   ·simp
  ·split<;>simp
theorem e_prim2(W:PW)(S:PS)(s:Byt)(a b:PV):(prim2 W S s a b).e<=12:=by
 unfold prim2;split
 ·simp
 ·split
  ·simp
  ·exact aAJ W S s a b
theorem rG(W:PW)(S:PS)(f:PV)(args:List PV):(applyB W S f args).e<=12:=by
 unfold applyB;split
 ·split
  ·split<;>simp
  ·simp
 ·split<;>simp
 ·split
  ·simp
  ·split
   ·exact e_prim1 _ _ _ _
   ·exact e_prim2 _ _ _ _ _
   ·simp
 ·simp
theorem e_apply(W:PW)(S:PS)(f:PV)(args:List PV):(Pl.apply W S f args).e<=12:=by
 unfold Pl.apply;split
 ·split
  ·dsimp only;split<;>exact rG _ _ _ _
  ·simp
 ·exact rG _ _ _ _
theorem e_taken(W:PW)(S:PS):(Pl.taken W S).e<=12:=by
 unfold Pl.taken;split
 ·simp
 ·dsimp only;split
  ·simp
  ·split<;>simp
  ·simp
  ·simp
  ·split
   ·split
    ·simp
    ·exact e_apply _ _ _ _
   ·simp
theorem e_step(W:PW)(S:PS):(Pl.step W S).e<=12:=by
 unfold Pl.step;split
 ·exact e_taken W S
 ·split
  ·simp
  ·split<;>simp
  ·simp
  ·simp
  ·simp
theorem eY{S:PS}(h:S.ended=true):S.form=none:=by unfold Pl.PS.ended at h;simp at h;exact h.1
theorem mA:∀(n:Nat)(W:PW)(S:PS)(t:Nat),WW W t->SW W S t->(goOn n W S).e<=12/\WW (goOn n W S).W (t+310*n)/\((goOn n W S).e=0->(goOn n W S).S.form=none/\WfV (goOn n W S).W (goOn n W S).S.val)
 | 0,W,S,t,hW,hS=>by
  unfold goOn;split
  ·rename_i he;exact⟨Nat.zero_le _,hW,fun _=>⟨eY he,hS.val (eY he)⟩⟩
  ·exact⟨by simp,hW,fun e=>by cases e⟩
 | n+1,W,S,t,hW,hS=>by
  unfold goOn;split
  ·rename_i he;exact⟨Nat.zero_le _,hW.later (by omega),fun _=>⟨eY he,hS.val (eY he)⟩⟩
  ·have hg:=jQ hW hS;dsimp only;split
   ·rename_i h0;obtain⟨a1,a2,a3⟩:=mA n _ _ (t+310) hg.2.1 (hg.2.2 h0);exact⟨a1,a2.later (by omega),a3⟩
   ·rename_i h0;exact⟨e_step W S,hg.2.1.later (by omega),fun e=>absurd e h0⟩
structure WSm(W:PW)(m:Nat):Prop where
 pairs:W.pairs.length<=m
 globals:W.globals.length<=m
 conts:∀l∈W.conts,l.length<=m
structure Sm(W:PW)(S:PS)(m:Nat):Prop where
 w:WSm W m
 frames:S.frames.length<=m
theorem WSm.mono{W:PW}(h:WSm W m)(hk:m<=k):WSm W k:=⟨Nat.le_trans h.pairs hk,Nat.le_trans h.globals hk,fun l hl=>Nat.le_trans (h.conts l hl) hk⟩
theorem Sm.mono{W:PW}{S:PS}(h:Sm W S m)(hk:m<=k):Sm W S k:=⟨h.w.mono hk,Nat.le_trans h.frames hk⟩
theorem Sm.up{W:PW}{S:PS}(h:Sm W S m):Sm W S (m+1):=h.mono (Nat.le_succ _)
theorem Sm.give{W:PW}{S:PS}(h:Sm W S m)(v:PV):Sm W (S.give v) m:=⟨h.w,h.frames⟩
def SmR(r:SR)(m:Nat):Prop:=Sm r.W r.S m
theorem p7(W:PW)(S:PS)(s:Byt)(a b:PV)(h:Sm W S m):SmR (Pl.reckon W S s a b) m:=by
 unfold Pl.reckon;split
 ·split
  ·exact h.give _
  ·split
   ·exact h.give _
   ·rename_i x y _ _;dsimp only;generalize (if s=plusW then x+y else if s=minusW then x-y else x*y)=n;by_cases hn:n.natAbs<=Pl.big
    ·rw [if_pos hn];exact h.give _
    ·rw [if_neg hn];exact h
 ·exact h
theorem aAR(W:PW)(S:PS)(s:Byt)(a:PV)(h:Sm W S m):SmR (prim1 W S s a) m:=by
 unfold prim1;split
 ·dsimp only;split
  ·exact⟨⟨h.w.pairs,h.w.globals,h.w.conts⟩,h.frames⟩
  ·exact h
 ·split
  ·split
   ·split
    ·exact h.give _
    ·exact h
   ·exact h
  ·split
   ·exact h.give _
   ·exact h.give _
theorem y5(W:PW)(S:PS)(s:Byt)(a b:PV)(h:Sm W S m):SmR (prim2 W S s a b) (m+1):=by
 unfold prim2;split
 ·exact⟨⟨by show(W.pairs++[(a,b)]).length<=_;have:=h.w.pairs;simp;omega,(h.up).w.globals,(h.up).w.conts⟩,h.up.frames⟩
 ·split
  ·exact h.up.give _
  ·exact Sm.up (p7 W S s a b h)
theorem cG(W:PW)(S:PS)(f:PV)(args:List PV)(h:Sm W S m):SmR (applyB W S f args) (m+1):=by
 unfold applyB;split
 ·split
  ·split
   ·exact h.up
   ·exact⟨⟨h.up.w.pairs,h.up.w.globals,h.up.w.conts⟩,h.up.frames⟩
  ·exact h.up
 ·rename_i i;split
  ·refine⟨h.up.w,?_⟩;show(W.conts[i]?.getD []).length<=_
   cases hi:W.conts[i]? with
   | none=>exact Nat.zero_le _
   | some l=>exact h.up.w.conts l (List.mem_of_getElem? hi)
  ·exact h.up
 ·split
  ·exact h.up
  ·split
   ·exact Sm.up (aAR W S _ _ h)
   ·exact y5 W S _ _ _ h
   ·exact h.up
 ·exact h.up
theorem Sm.keep{W:PW}{S:PS}(h:Sm W S m):Sm (W.keep S) S m :=
 ⟨⟨h.w.pairs,h.w.globals,fun l hl=>by
  rcases List.mem_append.1 (show l∈W.conts++[S.frames] from hl) with hl | hl
  ·exact h.w.conts l hl
  ·rw [List.mem_singleton.1 hl];exact h.frames⟩,h.frames⟩
theorem aAS(W:PW)(S:PS)(f:PV)(args:List PV)(h:Sm W S m):SmR (Pl.apply W S f args) (m+1):=by
 unfold Pl.apply;split
 ·split
  ·dsimp only;split
   ·exact cG _ _ _ _ h.keep.keep
   ·exact cG _ _ _ _ h.keep
  ·exact h.up
 ·exact cG W S f args h
theorem sm_bind(W:PW)(s:Byt)(v:PV)(h:WSm W m):WSm (Pl.bind W s v) (m+1):=by
 unfold Pl.bind;split
 ·exact⟨Nat.le_succ_of_le h.pairs,Nat.le_succ_of_le h.globals,fun l hl=>Nat.le_succ_of_le (h.conts l hl)⟩
 ·exact⟨Nat.le_succ_of_le h.pairs,by show(W.globals++[(s,W.places.length)]).length<=_;have:=h.globals;simp;omega,fun l hl=>Nat.le_succ_of_le (h.conts l hl)⟩
theorem y4(W:PW)(S:PS)(h:Sm W S m):SmR (Pl.taken W S) (m+1):=by
 unfold Pl.taken;split
 ·exact h.up
 ·rename_i fr rest hfr;have hr:rest.length+1<=m:=by have:=h.frames;rw [hfr] at this;simpa using this
  have h1:Sm W {S with frames:=rest} m:=⟨h.w,by show rest.length<=m;omega⟩
  dsimp only;split
  ·exact⟨h1.up.w,h1.up.frames⟩
  ·split
   ·exact⟨⟨h1.up.w.pairs,h1.up.w.globals,h1.up.w.conts⟩,h1.up.frames⟩
   ·exact h1.up
  ·exact⟨sm_bind W _ _ h.w,h1.up.frames⟩
  ·split
   ·exact⟨h.up.w,by show(_::rest).length<=_;simp;omega⟩
   ·exact⟨h1.up.w,h1.up.frames⟩
  ·split
   ·split
    ·exact h1.up
    ·exact aAS _ _ _ _ h1
   ·exact⟨h.up.w,by show(_::rest).length<=_;simp;omega⟩
theorem n5(W:PW)(S:PS)(h:Sm W S m):SmR (Pl.step W S) (m+1):=by
 have hf:=h.frames;unfold Pl.step;split
 ·exact y4 W S h
 ·split
  ·exact h.up.give _
  ·split
   ·exact h.up.give _
   ·exact h.up
  ·exact⟨⟨h.up.w.pairs,h.up.w.globals,h.up.w.conts⟩,h.up.frames⟩
  ·split
   ·exact⟨h.up.w,by show(_::S.frames).length<=_;simp;omega⟩
   ·exact⟨h.up.w,h.up.frames⟩
  ·exact⟨h.up.w,by show(_::S.frames).length<=_;simp;omega⟩
theorem p9:∀(n:Nat)(W:PW)(S:PS)(m:Nat),Sm W S m->SmR (goOn n W S) (m+n)
 | 0,W,S,m,h=>by
  unfold goOn;split
  ·exact h
  ·exact h
 | n+1,W,S,m,h=>by
  have hs:=n5 W S h;unfold goOn;split
  ·exact h.mono (Nat.le_add_right _ _)
  ·dsimp only;split
   ·have:=p9 n _ _ (m+1) hs
    rwa [show m+1+n=m+(n+1) from by omega] at this
   ·exact Sm.mono hs (by omega)
theorem aC2{W:PW}(h:WW W t):WfQ W:=⟨h.acy,h.vals⟩
theorem sm_began{W:PW}{i:Byt}{f:PF}(hW:WW W t)(h:WSm W m)(hc:Pl.check i=0)(hf:Pl.readF i=some f):Sm (Pl.beganW W f) (Pl.beganS W f) (m+1000):=by obtain⟨f1,f2⟩:=lN hc hf;have:=(mQ f1 f2.2 W t hW).2;refine⟨⟨?_,Nat.le_trans h.globals (by omega),fun l hl=>Nat.le_trans (h.conts l hl) (by omega)⟩,Nat.zero_le _⟩;show(W.pairs++(Pl.settle f W.pairs.length).2).length<=_;have:=h.pairs;rw [List.length_append];omega
theorem ans_sm{W:PW}(i:Byt×Int)(hW:WW W t)(h:WSm W m):∃t2,WW (Pl.answer W i).1 t2/\WSm (Pl.answer W i).1 (m+1001000):=by
 unfold Pl.answer;split
 ·exact⟨t,hW,h.mono (by omega)⟩
 ·rename_i ho;split
  ·exact⟨t,hW,h.mono (by omega)⟩
  ·rename_i hc;split
   ·exact⟨t,hW,h.mono (by omega)⟩
   ·rename_i f hf;have hc0:Pl.check i.1=0:=by simpa using hc
    obtain⟨f1,f2⟩:=lN hc0 hf;obtain⟨w1,w2⟩:=rI f1 f2 hW;have hs:=p9 i.2.toNat _ _ _ (sm_began hW h hc0 hf);have hn:i.2.toNat<=1000000:=by unfold Pl.over at ho;simp at ho;omega
    exact⟨_,(mA _ _ _ _ w1 w2).2.1,WSm.mono (Sm.w hs) (by omega)⟩
theorem session_sm(l:List (Byt×Int)):∀(W:PW)(t m:Nat),WW W t->WSm W m->∃t2,WW (Pl.session W l).1 t2/\WSm (Pl.session W l).1 (m+1001000*l.length):=by
 induction l with
 | nil=>exact fun W t m hW h=>⟨t,hW,h⟩
 | cons i r ih =>intro W t m hW h;obtain⟨t1,a1,a2⟩:=ans_sm i hW h;obtain⟨t2,b1,b2⟩:=ih _ t1 _ a1 a2;refine⟨t2,b1,b2.mono ?_⟩;rw [List.length_cons,Nat.mul_succ];omega
theorem zM(W:PW)(S:PS)(s:Byt)(a b:PV):(Pl.reckon W S s a b).W.out=W.out:=by
 unfold Pl.reckon;split
 ·split
  ·rfl
  ·split
   ·rfl
   ·rename_i x y _ _;dsimp only;generalize (if s=plusW then x+y else if s=minusW then x-y else x*y)=n;by_cases h:n.natAbs<=Pl.big
    ·rw [if_pos h]
    ·rw [if_neg h]
 ·rfl
theorem o_prim2(W:PW)(S:PS)(s:Byt)(a b:PV):(prim2 W S s a b).W.out=W.out:=by
 unfold prim2;split
 ·rfl
 ·split
  ·rfl
  ·exact zM W S s a b
theorem o_prim1(W:PW)(S:PS)(s:Byt)(a:PV)(h:W.out.length<=1000):(prim1 W S s a).W.out.length<=1000:=by
 unfold prim1;split
 ·dsimp only;split
  ·rename_i hl;simpa using hl
  ·exact h
 ·split
  ·split
   ·split<;>exact h
   ·exact h
  ·split<;>exact h
theorem l6(W:PW)(S:PS)(f:PV)(args:List PV)(h:W.out.length<=1000):(applyB W S f args).W.out.length<=1000:=by
 unfold applyB;split
 ·split
  ·split<;>exact h
  ·exact h
 ·split<;>exact h
 ·split
  ·exact h
  ·split
   ·exact o_prim1 W S _ _ h
   ·rw [o_prim2];exact h
   ·exact h
 ·exact h
theorem o_apply(W:PW)(S:PS)(f:PV)(args:List PV)(h:W.out.length<=1000):(Pl.apply W S f args).W.out.length<=1000:=by
 unfold Pl.apply;split
 ·split
  ·dsimp only;split
   ·exact l6 _ _ _ _ h
   ·exact l6 _ _ _ _ h
  ·exact h
 ·exact l6 W S f args h
theorem o_bind(W:PW)(s:Byt)(v:PV):(Pl.bind W s v).out=W.out:=by unfold Pl.bind;split<;>rfl
theorem o_taken(W:PW)(S:PS)(h:W.out.length<=1000):(Pl.taken W S).W.out.length<=1000:=by
 unfold Pl.taken;split
 ·exact h
 ·dsimp only;split
  ·exact h
  ·split<;>exact h
  ·rw [o_bind];exact h
  ·exact h
  ·split
   ·split
    ·exact h
    ·exact o_apply _ _ _ _ h
   ·exact h
theorem aDH(W:PW)(S:PS)(h:W.out.length<=1000):(Pl.step W S).W.out.length<=1000:=by
 unfold Pl.step;split
 ·exact o_taken W S h
 ·split
  ·exact h
  ·split<;>exact h
  ·exact h
  ·exact h
  ·exact h
def InvZ(n:Nat)(W:PW)(S:PS):Prop:=W.out.length<=1000/\∃t,WW W t/\SW W S t/\∃m,Sm W S m/\m+n<=6500000000000000000
theorem wF{n:Nat}{W:PW}{S:PS}(h:InvZ (n+1) W S):(Pl.step W S).e≠7/\(Pl.step W S).W.out.length<=1000/\((Pl.step W S).e=0->(Pl.step W S).S.ended=true\/InvZ n (Pl.step W S).W (Pl.step W S).S):=by obtain⟨h0,t,h2,h3,m,h4,h5⟩:=h;have hg:=jQ h2 h3;exact⟨hg.1,aDH W S h0,fun e=>.inr ⟨aDH W S h0,_,hg.2.1,hg.2.2 e,m+1,n5 W S h4,by omega⟩⟩
theorem aDO{n:Nat}{W:PW}{S:PS}(h:InvZ (n+1) W S)(e:(Pl.step W S).e=0):InvZ n (Pl.step W S).W (Pl.step W S).S:=by obtain⟨h0,t,h2,h3,m,h4,h5⟩:=h;have hg:=jQ h2 h3;exact⟨aDH W S h0,_,hg.2.1,hg.2.2 e,m+1,n5 W S h4,by omega⟩
theorem aAU{n:Int}(h:Pl.over n=false):n.toNat<=1000000:=by unfold Pl.over at h;simp at h;omega
theorem aDN{W:PW}{i:Byt×Int}(hW:WW W t)(hs:WSm W m)(hm:m+1001000<=6500000000000000000)(f:PF)(ho:Pl.over i.2=false)(hc:Pl.check i.1=0)(hf:Pl.readF i.1=some f):InvZ i.2.toNat (Pl.beganW W f) (Pl.beganS W f)/\WfQ (goOn i.2.toNat (Pl.beganW W f) (Pl.beganS W f)).W/\((goOn i.2.toNat (Pl.beganW W f) (Pl.beganS W f)).e=0->(goOn i.2.toNat (Pl.beganW W f) (Pl.beganS W f)).S.form=none/\WfV (goOn i.2.toNat (Pl.beganW W f) (Pl.beganS W f)).W (goOn i.2.toNat (Pl.beganW W f) (Pl.beganS W f)).S.val):=by obtain⟨f1,f2⟩:=lN hc hf;obtain⟨w1,w2⟩:=rI f1 f2 hW;have hb:=sm_began hW hs hc hf;have hn:=aAU ho;obtain⟨_,g2,g3⟩:=mA i.2.toNat _ _ _ w1 w2;exact⟨⟨Nat.zero_le _,_,w1,w2,_,hb,by omega⟩,aC2 g2,g3⟩
def TOut:TypeId:=43
theorem Tryz.infoOut:(prog.info? 43).map (fun i=>(i.zero,i.size,i.bytes))=some (some (.agg #[.int .i64 0,.string ⟨#[]⟩,.string ⟨#[]⟩]),3,40):=by kernel_rfl
def inP(i:ByteArray×Int):Byt×Int:=(i.1.data.toList,i.2)
def encO(o:PO):List Value:=[.int .i64 (o.code:Int),.string ⟨o.out.toArray⟩,.string ⟨o.val.toArray⟩]
def ScrAt(w:World)(v:Value)(ins:List (ByteArray×Int)):Prop:=∃ao cap,v=.slice ao ins.length cap/\ins.length<=cap/\∀(k:Nat)(i:ByteArray×Int),ins[k]?=some i->∃g,ao=some ⟨g,0,none⟩/\g<w.heap.size/\w.cell? ⟨g,k*2,none⟩=some (.string i.1)/\w.cell? ⟨g,k*2+1,none⟩=some (.int .i64 i.2)
structure SlInv(w wr:World)(wb:Nat)(Mk:Nat->Prop)(ins:List (ByteArray×Int))(k:Nat)(sv:Value):Prop where
 rw:RW wr wb Mk (Pl.session newW ((ins.take k).map inP)).1
 below:Below w.heap.size w wr
 low:∀j,j<w.heap.size->¬Mk j
 row:wr.ownsRow w.heap.size TOut 3 sv k ((Pl.session newW ((ins.take k).map inP)).2.flatMap encO)
 rowM:∀g,sv.ownBlock=some g->¬Mk g
theorem iI{ins:List (ByteArray×Int)}{i:ByteArray×Int}(h:ins[k]?=some i):Pl.session newW ((ins.take (k+1)).map inP)=((Pl.answer (Pl.session newW ((ins.take k).map inP)).1 (inP i)).1,(Pl.session newW ((ins.take k).map inP)).2++[(Pl.answer (Pl.session newW ((ins.take k).map inP)).1 (inP i)).2]):=by rw [List.take_add_one,h,Option.toList_some,List.map_append,List.map_cons,List.map_nil,Pl.session_snoc]
theorem SlInv.push{w wr w2 w3:World}{wb:Nat}{Mk M2:Nat->Prop}{ins:List (ByteArray×Int)}{sv:Value}{i:ByteArray×Int}{o1 o2:Obj}{g' cap':Nat}(h:SlInv w wr wb Mk ins k sv)(hi:ins[k]?=some i)
  (h1:RW w2 wb M2 (Pl.answer (Pl.session newW ((ins.take k).map inP)).1 (inP i)).1) (h2:Stp Mk wr M2 w2) (hown:w3.ownsRow w.heap.size TOut 3 (.slice (some ⟨g',0,none⟩) (k+1) cap') (k+1) ((Pl.session newW ((ins.take k).map inP)).2.flatMap encO++encO (Pl.answer (Pl.session newW ((ins.take k).map inP)).1 (inP i)).2))
  (hg:((w2.alloc o1).alloc o2).grownBy w3 sv.ownBlock) (hat:sv.ownBlock=some g'\/g'=w2.heap.size+2):SlInv w w3 wb M2 ins (k+1) (.slice (some ⟨g',0,none⟩) (k+1) cap'):=by
 have hbA:Below w2.heap.size w2 ((w2.alloc o1).alloc o2):=((Below.refl _ _).alloc (Nat.le_refl _) _).alloc (by simp) _;have hrl:=h.row.lt;have hbw2:Below w.heap.size w w2:=⟨h2.os.trans h.below.os,h2.tape.trans h.below.tape,h2.output.trans h.below.output,Nat.le_trans h.below.size h2.size,fun j hj=>((h2.block j (Nat.lt_of_lt_of_le hj h.below.size) (h.low j hj)).1).trans (h.below.block j hj)⟩
 have hlow2:∀j,j<w.heap.size->¬M2 j:=fun j hj=>(h2.block j (Nat.lt_of_lt_of_le hj h.below.size) (h.low j hj)).2;have hM2:∀g,sv.ownBlock=some g->¬M2 g:=fun g hgg=>(h2.block g (hrl g hgg).2 (h.rowM g hgg)).2;have hRA:=h1.later hbA
 have hR3:RW w3 wb M2 (Pl.answer (Pl.session newW ((ins.take k).map inP)).1 (inP i)).1:=by
  cases hv:sv.ownBlock with
  | none=>rw [hv] at hg;exact hRA.later (cS hg)
  | some g =>rw [hv] at hg;obtain⟨cur,hc⟩:=aN h.row g hv;have hc2:w2.heap[g]?=some (.cells cur TOut (0,0)):=(h2.block g (aB hc) (h.rowM g hv)).1.trans hc;exact hRA.grown hg ((hbA.block g (aB hc2)).trans hc2) stT_out
 refine⟨by rw [iI hi];exact hR3,?_,hlow2,by rw [iI hi,List.flatMap_append];simpa using hown,fun g hgg=>?_⟩
 ·refine(((hbw2.alloc hbw2.size o1).alloc (by have:=hbw2.size;simp;omega) o2).grown hg ?_ ?_)
  ·have:=hbw2.size;simp;omega
  ·intro j hj;exact(hrl j hj).1
 ·simp only [Value.ownBlock,Option.some.injEq] at hgg;subst hgg;rcases hat with e | e
  ·exact hM2 _ e
  ·intro hm;have:=h1.lt hm;omega
end
section
open Go.RowKit Go.Lib Go.Maps
def AnsSaid(tb mb sb gb:Nat):Prop:=∀(M:Nat->Prop)(w:World)(s:Sg)(t m:Nat)(W:PW)(b:ByteArray)(n:Int),Wd M w s tb mb sb gb W->WW W t->WSm W m->m+1001000<=6500000000000000000->s.ns.length+300<=NsMax ->
 Calls prog 74 #[.iface 73 (.pointer (some ⟨sb,0,none⟩)),.agg #[.string b,.int .i64 n],.pointer (some ⟨tb,0,none⟩)] w fun e w'=>AnsP M w s tb mb sb gb (Pl.answer W (b.data.toList,n)) e w'
theorem set3at{X:World}{R o:Nat}{cur:Array Value}{T:TypeId}(h:X.heap[R]?=some (.cells cur T (0,0)))(hl:o+2<cur.size):∃c0 c1 c2,X.cell? ⟨R,o,none⟩=some c0/\X.frozen? ⟨R,o,none⟩=false /\
  (∀a:Value,(X.setCell ⟨R,o,none⟩ a).cell? ⟨R,o+1,none⟩=some c1/\(X.setCell ⟨R,o,none⟩ a).frozen? ⟨R,o+1,none⟩=false) /\
  (∀a b:Value,((X.setCell ⟨R,o,none⟩ a).setCell ⟨R,o+1,none⟩ b).cell? ⟨R,o+2,none⟩=some c2/\((X.setCell ⟨R,o,none⟩ a).setCell ⟨R,o+1,none⟩ b).frozen? ⟨R,o+2,none⟩=false):=by
 refine⟨cur[o]'(by omega),cur[o+1]'(by omega),cur[o+2]'hl,(aA h o).trans (Array.getElem?_eq_getElem _),aF h o,fun a=>⟨?_,aF (aD h o a) _⟩,fun a b=>⟨?_,aF (aD (aD h o a) (o+1) b) _⟩⟩
 ·rw [aA (aD h o a) (o+1),Array.getElem?_setIfInBounds,if_neg (by omega)];exact Array.getElem?_eq_getElem _
 ·rw [aA (aD (aD h o a) (o+1) b) (o+2),Array.getElem?_setIfInBounds,if_neg (by omega),Array.getElem?_setIfInBounds,if_neg (by omega)];exact Array.getElem?_eq_getElem _
def rowZ(w:World)(R o:Nat)(po:PO):World:=((w.setCell ⟨R,o,none⟩ (.int .i64 (po.code:Int))).setCell ⟨R,o+1,none⟩ (.string ⟨po.out.toArray⟩)).setCell ⟨R,o+2,none⟩ (.string ⟨po.val.toArray⟩)
structure RsI(M0:Nat->Prop)(w0:World)(s0:Sg)(wr:World)(M:Nat->Prop)(s:Sg)(tb mb sb gb g:Nat)(ins:List (ByteArray×Int))(k:Nat):Prop where
 wd:Wd M wr s tb mb sb gb (Pl.session newW ((ins.take k).map inP)).1
 stp:Stp M0 w0 M wr
 ns:s.ns.length<=313+300*k
 le:Sg.Le s0 s/\PbN w0 s0 s
 ng:¬M g
 gw:w0.heap.size<=g
 row:∃cur,wr.heap[g]?=some (.cells cur TOc (0,0))/\cur.size=ins.length*3/\∀(j:Nat)(o:PO),(Pl.session newW ((ins.take k).map inP)).2[j]?=some o->cur[j*3]?=some (.int .i64 (o.code:Int))/\cur[j*3+1]?=some (.string ⟨o.out.toArray⟩)/\cur[j*3+2]?=some (.string ⟨o.val.toArray⟩)
theorem RsI.next{M0 M M2:Nat->Prop}{w0 wr w2:World}{s0 s s2:Sg}{tb mb sb gb g k:Nat}{ins:List (ByteArray×Int)}{i:ByteArray×Int}{o1:Obj}(h:RsI M0 w0 s0 wr M s tb mb sb gb g ins k)(hi:ins[k]?=some i)(hg0:8<=w0.heap.size)
  (q1:Stp M (wr.alloc o1) M2 w2) (q2:s2.ns.length<=s.ns.length+300) (ql:Sg.Le s s2/\PbN (wr.alloc o1) s s2) (q3:Wd M2 w2 s2 tb mb sb gb (Pl.answer (Pl.session newW ((ins.take k).map inP)).1 (inP i)).1) :
  RsI M0 w0 s0 (rowZ w2 g (k*3) (Pl.answer (Pl.session newW ((ins.take k).map inP)).1 (inP i)).2) M2 s2 tb mb sb gb g ins (k+1):=by
 have hns:s2.ns.length<=313+300*(k+1):=Nat.le_trans q2 (Nat.le_trans (Nat.add_le_add_right h.ns 300) (Nat.le_of_eq (by rw [Nat.mul_succ,Nat.add_assoc])));obtain⟨cur,c1,c2,c3⟩:=h.row;have hgl:=aB c1;have hkl:=(List.getElem?_eq_some_iff.1 hi).1;have hB:Below wr.heap.size wr (wr.alloc o1):=(Below.refl _ _).alloc (Nat.le_refl _) _;obtain⟨e1,e2⟩:=((Stp.of_below (M:=M) hB).trans q1).block g hgl h.ng;have hb2:=e1.trans c1;generalize hpo:(Pl.answer (Pl.session newW ((ins.take k).map inP)).1 (inP i)).2=po;have g3:w2.grownBy (rowZ w2 g (k*3) po) (some g):=aC (aC (aE w2 g _ _) (aE _ g _ _)) (aE _ g _ _);have hs2:=h.stp.trans ((Stp.of_below (M:=M) hB).trans q1);have hgw:=h.gw;have hlen:(Pl.session newW ((ins.take k).map inP)).2.length=k:=by rw [Pl.session_len,List.length_map,List.length_take];omega
 have hlt3:∀j,j<w0.heap.size->j<w2.heap.size:=fun j hj=>Nat.lt_of_lt_of_le hj hs2.size
 have hsto:Sto w2 (rowZ w2 g (k*3) po):=by
  refine⟨g3.size,fun j x hj hx=>(g3.block j (aB hj) (fun e=>?_)).trans hj,fun j hj=>g3.block j (hlt3 j (by omega)) (fun e=>?_)⟩
  ·have:=Option.some.inj e;subst this;rw [hb2] at hj;exact hx cur TOc _ (.inl rfl) (Option.some.inj hj).symm
  ·have:=Option.some.inj e;omega
 have hstp:Stp M0 w0 M2 (rowZ w2 g (k*3) po):=by refine⟨g3.os.trans hs2.os,g3.tape.trans hs2.tape,g3.output.trans hs2.output,Nat.le_trans hs2.size g3.size,fun j hj hn=>?_⟩;obtain⟨h1,h2⟩:=hs2.block j hj hn;exact⟨(g3.block j (hlt3 j hj) (fun e=>by have:=Option.some.inj e;omega)).trans h1,h2⟩
 have hwd:Wd M2 (rowZ w2 g (k*3) po) s2 tb mb sb gb (Pl.session newW ((ins.take (k+1)).map inP)).1:=by rw [iI hi];exact q3.sto hsto
 have hnew:=aD (aD (aD hb2 (k*3) (.int .i64 (po.code:Int))) (k*3+1) (.string ⟨po.out.toArray⟩)) (k*3+2) (.string ⟨po.val.toArray⟩);refine⟨hwd,hstp,hns,⟨h.le.1.trans ql.1,h.le.2.trans ql.2 (Nat.le_trans h.stp.size hB.size)⟩,e2,hgw,_,hnew,by simpa using c2,fun j o hj=>?_⟩
 ·rw [iI hi,hpo] at hj;have hj':((Pl.session newW ((ins.take k).map inP)).2++[po])[j]?=some o:=hj;simp only [Array.getElem?_setIfInBounds,Array.size_setIfInBounds];rcases Nat.lt_trichotomy j k with hjk | rfl | hjk
  ·rw [List.getElem?_append_left (by omega)] at hj';obtain⟨d1,d2,d3⟩:=c3 j o hj';refine⟨?_,?_,?_⟩
   ·rw [if_neg (by omega),if_neg (by omega),if_neg (by omega)];exact d1
   ·rw [if_neg (by omega),if_neg (by omega),if_neg (by omega)];exact d2
   ·rw [if_neg (by omega),if_neg (by omega),if_neg (by omega)];exact d3
  ·rw [List.getElem?_append_right (by omega),hlen,Nat.sub_self] at hj';obtain rfl:po=o:=Option.some.inj hj';refine⟨?_,?_,?_⟩
   ·rw [if_neg (by omega),if_neg (by omega),if_pos rfl,if_pos (by omega)]
   ·rw [if_neg (by omega),if_pos rfl,if_pos (by omega)]
   ·rw [if_pos rfl,if_pos (by omega)]
  ·rw [List.getElem?_append_right (by omega),hlen,List.getElem?_eq_none (by simp;omega)] at hj'
   cases hj'
end
section
open Go.RowKit
def TInp:TypeId:=41
theorem Tryz.infoInp:(prog.info? 41).map (fun i=>(i.zero,i.size,i.bytes))=some (some (.agg #[.string ⟨#[]⟩,.int .i64 0]),2,24):=by kernel_rfl
def iL(i:ByteArray×Int):List Value:=[.string i.1,.int .i64 i.2]
def ScrIn(w:World)(v:Value)(ins:List (ByteArray×Int)):Prop:=∃ao cap,v=.slice ao ins.length cap/\ins.length<=cap/\∀(k:Nat)(i:ByteArray×Int),ins[k]?=some i->∃g off,ao=some ⟨g,off,none⟩/\g<w.heap.size/\w.cell? ⟨g,off+k*2,none⟩=some (.string i.1)/\w.cell? ⟨g,off+k*2+1,none⟩=some (.int .i64 i.2)
def OutAt(w:World)(v:Value)(l:List PO):Prop:=∃ao cap,v=.slice ao l.length cap/\l.length<=cap/\∀(k:Nat)(o:PO),l[k]?=some o->∃g,ao=some ⟨g,0,none⟩/\g<w.heap.size/\w.cell? ⟨g,k*3,none⟩=some (.int .i64 (o.code:Int))/\w.cell? ⟨g,k*3+1,none⟩=some (.string ⟨o.out.toArray⟩)/\w.cell? ⟨g,k*3+2,none⟩=some (.string ⟨o.val.toArray⟩)
end
end Go.Proofs.YtkgbdddkcjpgfaaGreatDoor
