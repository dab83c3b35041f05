import Derived.Test.YtkgbdddkcjpgfaaGreatDoorS43
import Derived.Test.YtkgbdddkcjpgfaaGreatDoorS40
namespace Go.Proofs.YtkgbdddkcjpgfaaGreatDoor
set_option maxHeartbeats 2000000
set_option maxRecDepth 100000
open Go.Proofs.Tryz
open Pl (PV PW PS PF Byt PO prim2 prim1 applyB plusW minusW newW goOn)
section
open Go.RowKit
variable {t n:Nat}
theorem aAJ(W:PW)(S:PS)(s:Byt)(a b:PV):(Pl.reckon W S s a b).e<=12:=by
 unfold Pl.reckon;split
 ·split
  ·simp
  ·split
   ·simp
   ·rename_i x y _ _;dsimp only;generalize (if s=plusW then x+y else if s=minusW then x-y else x*y)=n;by_cases h:n.natAbs<=Pl.big
    ·rw [if_pos h];simp
    ·rw [if_neg h];simp
 ·simp
theorem e_prim1(W:PW)(S:PS)(s:Byt)(a:PV):(prim1 W S s a).e<=12:=by
 unfold prim1;split
 ·dsimp only;split<;>simp
 ·split
  ·split
   ·split<;>simp
   ·simp
  ·split<;>simp
theorem e_prim2(W:PW)(S:PS)(s:Byt)(a b:PV):(prim2 W S s a b).e<=12:=by
 unfold prim2;split
 ·simp
 ·split
  ·simp
  ·exact aAJ W S s a b
theorem rG(W:PW)(S:PS)(f:PV)(args:List PV):(applyB W S f args).e<=12:=by
 unfold applyB;split
 ·split
  ·split<;>simp
  ·simp
 ·split<;>simp
 ·split
  ·simp
  ·split
   ·exact e_prim1 _ _ _ _
   ·exact e_prim2 _ _ _ _ _
   ·simp
 ·simp
theorem e_apply(W:PW)(S:PS)(f:PV)(args:List PV):(Pl.apply W S f args).e<=12:=by
 unfold Pl.apply;split
 ·split
  ·dsimp only;split<;>exact rG _ _ _ _
  ·simp
 ·exact rG _ _ _ _
theorem e_taken(W:PW)(S:PS):(Pl.taken W S).e<=12:=by
 unfold Pl.taken;split
 ·simp
 ·dsimp only;split
  ·simp
  ·split<;>simp
  ·simp
  ·simp
  ·split
   ·split
    ·simp
    ·exact e_apply _ _ _ _
   ·simp
theorem e_step(W:PW)(S:PS):(Pl.step W S).e<=12:=by
 unfold Pl.step;split
 ·exact e_taken W S
 ·split
  ·simp
  ·split<;>simp
  ·simp
  ·simp
  ·simp
theorem eY{S:PS}(h:S.ended=true):S.form=none:=by unfold Pl.PS.ended at h;simp at h;exact h.1
theorem tM{W:PW}(h:WW W t)(ht:t<=1000000000):WfP W:=⟨h.acy,h.vals,by have:=h.pairsL;omega⟩
theorem mA:∀(n:Nat)(W:PW)(S:PS)(t:Nat),WW W t->SW W S t->(goOn n W S).e<=12/\WW (goOn n W S).W (t+310*n)/\((goOn n W S).e=0->(goOn n W S).S.form=none/\WfV (goOn n W S).W (goOn n W S).S.val)
 | 0,W,S,t,hW,hS=>by
  unfold goOn;split
  ·rename_i he;exact⟨Nat.zero_le _,hW,fun _=>⟨eY he,hS.val (eY he)⟩⟩
  ·exact⟨by simp,hW,fun e=>by cases e⟩
 | n+1,W,S,t,hW,hS=>by
  unfold goOn;split
  ·rename_i he;exact⟨Nat.zero_le _,hW.later (by omega),fun _=>⟨eY he,hS.val (eY he)⟩⟩
  ·have hg:=jQ hW hS;dsimp only;split
   ·rename_i h0;obtain⟨a1,a2,a3⟩:=mA n _ _ (t+310) hg.2.1 (hg.2.2 h0);exact⟨a1,a2.later (by omega),a3⟩
   ·rename_i h0;exact⟨e_step W S,hg.2.1.later (by omega),fun e=>absurd e h0⟩
theorem goOk_of{W:PW}{S:PS}(hW:WW W t)(hS:SW W S t)(ht:t+310*n<=100000000):GoOk n W S:=by obtain⟨a1,a2,a3⟩:=mA n W S t hW hS;exact⟨⟨InvT,s7,t,ht,hW,hS⟩,by omega,tM a2 (by omega),a3⟩
def InvC(_:Nat)(W:PW)(S:PS):Prop:=∃t,t<=100000000/\WW W t/\SW W S t/\S.frames=[]/\∀f,S.form=some f->f.k=.const
theorem s8:Lasts InvC:=by
 intro n W S h he;obtain⟨t,ht,hW,hS,hf,hk⟩:=h
 cases hform:S.form with
 | none=>unfold Pl.PS.ended at he;simp [hform,hf] at he
 | some f =>
  have hc:=hk f hform;have hst:Pl.step W S=⟨0,W,S.give f.v⟩:=by unfold Pl.step;rw [hform];dsimp only;rw [hc]
  rw [hst];exact⟨stOk hW hS ht,by simp,fun _=>⟨t,ht,hW,hS.give ((hS.form f hform).val hc),hf,fun g hg=>by cases hg⟩⟩
theorem kW{W:PW}{S:PS}{f:PF}(hf:S.frames=[])(hform:S.form=some f)(hc:f.k=.const):goOn (n+1) W S=⟨0,W,S.give f.v⟩:=by
 have hst:Pl.step W S=⟨0,W,S.give f.v⟩:=by unfold Pl.step;rw [hform];dsimp only;rw [hc]
 have he:S.ended=false:=by unfold Pl.PS.ended;simp [hform]
 have he2:(S.give f.v).ended=true:=by unfold Pl.PS.ended Pl.PS.give;simp [hf]
 unfold goOn;rw [if_neg (by simp [he])];dsimp only;rw [hst];dsimp only;rw [if_pos rfl]
 cases n<;>(unfold goOn;rw [if_pos he2])
theorem tE{W:PW}{S:PS}{f:PF}(hW:WW W t)(hS:SW W S t)(ht:t<=100000000)(hf:S.frames=[])(hform:S.form=some f)(hc:f.k=.const):GoOk (n+1) W S:=by refine⟨⟨InvC,s8,t,ht,hW,hS,hf,fun g hg=>by rw [hform] at hg;obtain rfl:=Option.some.inj hg;exact hc⟩,?_⟩;rw [kW hf hform hc];exact⟨by simp,tM hW (by omega),fun _=>⟨rfl,(hS.form f hform).val hc⟩⟩
def tJ(i:Byt×Int):Prop:=Pl.over i.2=true\/i.2<=3000\/i.1=[55]
theorem iT:(Pl.readF [55]).map (fun f=>decide (f.k=.const))=some true:=by decide
theorem p8(f:PF)(b:Nat):(Pl.settle f b).1.k=f.k:=by
 cases f with
 | mk k nm d v ks ns =>
  by_cases hk:k=.const
  ·subst hk;rw [Pl.settle_const];rfl
  ·rw [Pl.settle_other _ _ _ _ _ _ _ hk];rfl
theorem wS{W:PW}{i:Byt×Int}(hW:WW W t)(ht:t+931000<=100000000)(hi:tJ i) :(∀f,Pl.over i.2=false->Pl.check i.1=0->Pl.readF i.1=some f->GoOk i.2.toNat (Pl.beganW W f) (Pl.beganS W f))/\(∀f,Pl.check i.1=0->Pl.readF i.1=some f->(Pl.settle f W.pairs.length).2.length<=1000)/\WW (Pl.answer W i).1 (t+931000):=by
 have key:∀f,Pl.over i.2=false->Pl.check i.1=0->Pl.readF i.1=some f->GoOk i.2.toNat (Pl.beganW W f) (Pl.beganS W f)/\WW (goOn i.2.toNat (Pl.beganW W f) (Pl.beganS W f)).W (t+931000):=by
  intro f ho hc hf;obtain⟨f1,f2⟩:=lN hc hf;obtain⟨w1,w2⟩:=rI f1 f2 hW;by_cases h3:i.2<=3000
  ·have hn:i.2.toNat<=3000:=by omega
   exact⟨goOk_of w1 w2 (by omega),(mA _ _ _ _ w1 w2).2.1.later (by omega)⟩
  ·have h7:i.1=[55]:=by
    rcases hi with h | h | h
    ·rw [h] at ho;cases ho
    ·omega
    ·exact h
   obtain⟨m,hm⟩:∃m,i.2.toNat=m+1:=⟨i.2.toNat-1,by omega⟩
   have hk:f.k=.const:=by rw [h7] at hf;have:=iT;rw [hf] at this;simpa using this
   have hform:(Pl.beganS W f).form=some (Pl.settle f W.pairs.length).1:=rfl;have hk2:(Pl.settle f W.pairs.length).1.k=.const:=(p8 f _).trans hk;rw [hm];refine⟨tE w1 w2 (by omega) rfl hform hk2,?_⟩;rw [kW rfl hform hk2];exact w1.later (by omega)
 refine⟨fun f ho hc hf=>(key f ho hc hf).1,fun f hc hf=>?_,?_⟩
 ·obtain⟨f1,f2⟩:=lN hc hf;have:=(mQ f1 W t hW).2;omega
 ·unfold Pl.answer;split
  ·exact hW.later (by omega)
  ·rename_i ho;split
   ·exact hW.later (by omega)
   ·rename_i hc;split
    ·exact hW.later (by omega)
    ·rename_i f hf;exact(key f (by simpa using ho) (by simpa using hc) hf).2
theorem kR(l:List (Byt×Int)):∀(W:PW)(t c:Nat),c=931000->WW W t->(∀i∈l,tJ i)->t+c*l.length<=100000000->WW (Pl.session W l).1 (t+c*l.length):=by
 induction l with
 | nil =>intro W t c _ hW _ _;rw [List.length_nil,Nat.mul_zero,Nat.add_zero];exact hW
 | cons i r ih =>intro W t c hc hW hl ht;rw [List.length_cons,Nat.mul_add,Nat.mul_one] at ht ⊢;have h:=(wS hW (by omega) (hl i (by simp))).2.2;rw [<- hc] at h;have:=ih (Pl.answer W i).1 (t+c) c hc h (fun j hj=>hl j (List.mem_cons_of_mem _ hj)) (by omega);rw [show t+(c*r.length+c)=t+c+c*r.length from by omega];exact this
def TOut:TypeId:=43
theorem Tryz.infoOut:(prog.info? 43).map (fun i=>(i.zero,i.size,i.bytes))=some (some (.agg #[.int .i64 0,.string ⟨#[]⟩,.string ⟨#[]⟩]),3,40):=by kernel_rfl
def inP(i:ByteArray×Int):Byt×Int:=(i.1.data.toList,i.2)
def oC(o:PO):List Value:=[.int .i64 (o.code:Int),.string ⟨o.out.toArray⟩,.string ⟨o.val.toArray⟩]
def ScrAt(w:World)(v:Value)(ins:List (ByteArray×Int)):Prop:=∃ao cap,v=.slice ao ins.length cap/\ins.length<=cap/\∀(k:Nat)(i:ByteArray×Int),ins[k]?=some i->∃g,ao=some ⟨g,0,none⟩/\g<w.heap.size/\w.cell? ⟨g,k*2,none⟩=some (.string i.1)/\w.cell? ⟨g,k*2+1,none⟩=some (.int .i64 i.2)
structure SlInv(w wr:World)(wb:Nat)(Mk:Nat->Prop)(ins:List (ByteArray×Int))(k:Nat)(sv:Value):Prop where
 rw:RW wr wb Mk (Pl.session newW ((ins.take k).map inP)).1
 below:Below w.heap.size w wr
 low:∀j,j<w.heap.size->¬Mk j
 row:wr.ownsRow w.heap.size TOut 3 sv k ((Pl.session newW ((ins.take k).map inP)).2.flatMap oC)
 rowM:∀g,sv.ownBlock=some g->¬Mk g
theorem iI{ins:List (ByteArray×Int)}{k:Nat}{i:ByteArray×Int}(h:ins[k]?=some i):Pl.session newW ((ins.take (k+1)).map inP)=((Pl.answer (Pl.session newW ((ins.take k).map inP)).1 (inP i)).1,(Pl.session newW ((ins.take k).map inP)).2++[(Pl.answer (Pl.session newW ((ins.take k).map inP)).1 (inP i)).2]):=by rw [List.take_add_one,h,Option.toList_some,List.map_append,List.map_cons,List.map_nil,Pl.session_snoc]
theorem SlInv.push{w wr w2 w3:World}{wb:Nat}{Mk M2:Nat->Prop}{ins:List (ByteArray×Int)}{k:Nat}{sv:Value}{i:ByteArray×Int}{o1 o2:Obj}{g' cap':Nat}(h:SlInv w wr wb Mk ins k sv)(hi:ins[k]?=some i)
  (h1:RW w2 wb M2 (Pl.answer (Pl.session newW ((ins.take k).map inP)).1 (inP i)).1) (h2:Stp Mk wr M2 w2) (hown:w3.ownsRow w.heap.size TOut 3 (.slice (some ⟨g',0,none⟩) (k+1) cap') (k+1) ((Pl.session newW ((ins.take k).map inP)).2.flatMap oC++oC (Pl.answer (Pl.session newW ((ins.take k).map inP)).1 (inP i)).2))
  (hg:((w2.alloc o1).alloc o2).grownBy w3 sv.ownBlock) (hat:sv.ownBlock=some g'\/g'=w2.heap.size+2):SlInv w w3 wb M2 ins (k+1) (.slice (some ⟨g',0,none⟩) (k+1) cap'):=by
 have hbA:Below w2.heap.size w2 ((w2.alloc o1).alloc o2):=((Below.refl _ _).alloc (Nat.le_refl _) _).alloc (by simp) _;have hrl:=h.row.lt;have hbw2:Below w.heap.size w w2:=⟨h2.os.trans h.below.os,h2.tape.trans h.below.tape,h2.output.trans h.below.output,Nat.le_trans h.below.size h2.size,fun j hj=>((h2.block j (Nat.lt_of_lt_of_le hj h.below.size) (h.low j hj)).1).trans (h.below.block j hj)⟩
 have hlow2:∀j,j<w.heap.size->¬M2 j:=fun j hj=>(h2.block j (Nat.lt_of_lt_of_le hj h.below.size) (h.low j hj)).2;have hM2:∀g,sv.ownBlock=some g->¬M2 g:=fun g hgg=>(h2.block g (hrl g hgg).2 (h.rowM g hgg)).2;have hRA:=h1.later hbA
 have hR3:RW w3 wb M2 (Pl.answer (Pl.session newW ((ins.take k).map inP)).1 (inP i)).1:=by
  cases hv:sv.ownBlock with
  | none=>rw [hv] at hg;exact hRA.later (cS hg)
  | some g =>rw [hv] at hg;obtain⟨cur,hc⟩:=aN h.row g hv;have hc2:w2.heap[g]?=some (.cells cur TOut (0,0)):=(h2.block g (aB hc) (h.rowM g hv)).1.trans hc;exact hRA.grown hg ((hbA.block g (aB hc2)).trans hc2) tQ
 refine⟨by rw [iI hi];exact hR3,?_,hlow2,by rw [iI hi,List.flatMap_append];simpa using hown,fun g hgg=>?_⟩
 ·refine(((hbw2.alloc hbw2.size o1).alloc (by have:=hbw2.size;simp;omega) o2).grown hg ?_ ?_)
  ·have:=hbw2.size;simp;omega
  ·intro j hj;exact(hrl j hj).1
 ·simp only [Value.ownBlock,Option.some.injEq] at hgg;subst hgg;rcases hat with e | e
  ·exact hM2 _ e
  ·intro hm;have:=h1.lt hm;omega
theorem rf_slow(hI:ItoaSaid)(w:World)(v:Value)(ins:List (ByteArray×Int))(hS:ScrAt w v ins)(hl:ins.length<=61)(hin:∀i∈ins,tJ (inP i)/\i.1.size<=maxLen)(hgz:8<=w.heap.size)(htab:Lib.TabIs prog w oS .u64 Lib.pow10Tab) :Calls prog 20 #[v] w fun e w'=>∃rv,e=.returned rv/\Below w.heap.size w w'/\w'.ownsRow w.heap.size TOut 3 rv ins.length ((Pl.session newW (ins.map inP)).2.flatMap oC):=by
 obtain⟨i0,hi0,hz0,hz1,hz2⟩:=info_parts Tryz.infoOut;have HI:Hid ItoaSaid:=hI;have HIn:Hid (∀i∈ins,tJ (inP i)/\i.1.size<=maxLen):=hin;have HT:=(show Hid (8<=w.heap.size/\Lib.TabIs prog w oS .u64 Lib.pow10Tab) from⟨hgz,htab⟩)
 obtain⟨ao,cap,rfl,hcap,hcell⟩:=hS;have HC:Hid (∀(k:Nat)(i:ByteArray×Int),ins[k]?=some i->∃g,ao=some ⟨g,0,none⟩/\g<w.heap.size/\w.cell? ⟨g,k*2,none⟩=some (.string i.1)/\w.cell? ⟨g,k*2+1,none⟩=some (.int .i64 i.2)):=hcell;clear hI hin hgz htab hcell;go_enter func20,ntmps20;go_wp2_with fail;refine(m0 w).mono ?_;rintro e w1 ⟨rfl,hB1,M1,hW1,hM1⟩;have HS1:Hid (SlInv w w1 w.heap.size M1 ins 0 (.slice none 0 0)):=show SlInv _ _ _ _ _ _ _ from⟨hW1,hB1,hM1,World.ownsRow_nil _ _ _ _,fun g hg=>by simp [Value.ownBlock] at hg⟩;clear hB1 hW1 hM1;go_wp2_with fail
 go_loopw [4,5] (fun sv i wr=>∃(k:Nat)(Mk:Nat->Prop),k<=ins.length/\i=.int .i64 k/\Hid (SlInv w wr w.heap.size Mk ins k sv)) (fun _ i _=>ins.length-(intOf i).toNat)
 case atStart=>exact⟨0,M1,Nat.zero_le _,rfl,HS1⟩
 case round =>
  obtain⟨k,Mk,hk,rfl,HS⟩:=hrel;by_cases hlt:k<ins.length
  ·obtain⟨i,hi⟩:∃i,ins[k]?=some i:=⟨ins[k],List.getElem?_eq_getElem hlt⟩
   obtain⟨g,rfl,hg,hc0,hc1⟩:=HC.out k i hi;have c0:wr.cell? ⟨g,k*2,none⟩=some (.string i.1):=(HS.out.below.cell (p:=⟨g,k*2,none⟩) hg).trans hc0;have c1:wr.cell? ⟨g,k*2+1,none⟩=some (.int .i64 i.2):=(HS.out.below.cell (p:=⟨g,k*2+1,none⟩) hg).trans hc1;have HX:Hid (ins[k]?=some i):=hi;obtain⟨q1,q2⟩:=HIn.out i (List.mem_of_getElem? hi);have hww:WW (Pl.session newW ((ins.take k).map inP)).1 (13+931000*k):=by have:=kR ((ins.take k).map inP) newW 13 931000 rfl vP (fun j hj=>by obtain⟨y,hy,rfl⟩:=List.mem_map.1 hj;exact(HIn.out y (List.mem_of_mem_take hy)).1) (by rw [List.length_map,List.length_take];omega);rw [List.length_map,List.length_take,Nat.min_eq_left hk] at this;exact this
   obtain⟨a1,a2,_⟩:=wS (i:=inP i) hww (by omega) q1;have HA:=(show Hid (Calls prog 47 #[.pointer (some ⟨w.heap.size,0,none⟩),.agg #[.string i.1,.int .i64 i.2]] wr fun e w'=>AnsPost wr w.heap.size Mk (Pl.answer (Pl.session newW ((ins.take k).map inP)).1 (inP i)) e w') from t8 HI.out wr w.heap.size Mk _ i.1 i.2 q2 HS.out.rw ⟨Nat.le_trans HT.out.1 HS.out.below.size,fun j hj=>HS.out.low j (Nat.lt_of_lt_of_le hj HT.out.1),iH (fun j hj=>HS.out.below.block j (Nat.lt_of_lt_of_le hj HT.out.1)) HT.out.2⟩ (by have:=hww.pairsL;omega) a1 a2)
   have hlt2:(k:Int)<(ins.length:Int):=by omega
   obtain⟨s,n⟩:=i;dsimp only at c0 c1 HA;clear hww a1 a2 q1 q2 hi hc0 hc1;go_wp2_with fail;refine Calls.mono HA.out ?_;rintro e w2 ⟨rfl,M2,k1,k2⟩;have HO2:Hid (w2.ownsRow w.heap.size TOut 3 u4 k ((Pl.session newW ((ins.take k).map inP)).2.flatMap oC)):=by have hr:=HS.out.row;refine⟨hr.1,hr.2.imp id ?_⟩;rintro⟨g2,cap2,cur,e,hb,hgg,rest⟩;exact⟨g2,cap2,cur,e,hb,(k2.block g2 (aB hgg) (HS.out.rowM g2 (by rw [e];rfl))).1.trans hgg,rest⟩
   have HP:Hid (∀(w3:World)(o1 o2:Obj)(g' cap':Nat),w3.ownsRow w.heap.size TOut 3 (.slice (some ⟨g',0,none⟩) (k+1) cap') (k+1) ((Pl.session newW ((ins.take k).map inP)).2.flatMap oC++oC (Pl.answer (Pl.session newW ((ins.take k).map inP)).1 (inP (s,n))).2)->((w2.alloc o1).alloc o2).grownBy w3 u4.ownBlock->(u4.ownBlock=some g'\/g'=w2.heap.size+2)->SlInv w w3 w.heap.size M2 ins (k+1) (.slice (some ⟨g',0,none⟩) (k+1) cap')):=fun w3 o1 o2 g' cap' h1 h2 h3=>HS.out.push HX.out k1 k2 h1 h2 h3;have hw2:w.heap.size<=w2.heap.size:=Nat.le_trans HS.out.below.size k2.size;clear k1 k2 HA HS c0 c1;generalize (Pl.answer (Pl.session newW ((ins.take k).map inP)).1 (inP (s,n))).2=po at *;unfold oH;go_wp2_with (first | (at_builtin;refine wpList_append_lies _ rfl _ _ 28 rfl w.heap.size 43 i0 (.agg #[.int .i64 0,.string ⟨#[]⟩,.string ⟨#[]⟩]) 3 40 underlying28 hi0 hz0 hz1 hz2 rfl (by decide) u4 k _ rfl ((HO2.out.alloc _).alloc _) ⟨w2.heap.size+1,0,none⟩ 1 1 (oC po) rfl rfl (World.news_of_block (cs:=#[.int .i64 (po.code:Int),.string ⟨po.out.toArray⟩,.string ⟨po.val.toArray⟩]) (t:=43) (fr:=(0,0)) (kM w2 _ _)) (fun x hx=>by simp [oC] at hx;rcases hx with rfl | rfl | rfl<;>rfl) (by decide) (by unfold maxLen;omega) (by omega) (by simp;omega) (w2.heap.size+2) (by simp) ?_;intro g3 cap3 w3 hown3 hgrow3 hat3 _))
   go_roundw
   case rel=>exact⟨k+1,M2,by omega,by go_num,HP.out w3 _ _ _ _ hown3 hgrow3 hat3⟩
   case measure=>simp [intOf];omega
  ·obtain rfl:k=ins.length:=by omega
   have HO:=(show Hid (wr.ownsRow w.heap.size TOut 3 u4 ins.length ((Pl.session newW (ins.map inP)).2.flatMap oC)) from by have:=HS.out.row;rw [List.take_length] at this;exact this)
   have HB:Hid (Below w.heap.size w wr):=HS.out.below;clear HS;go_wp2_with fail;go_ret;exact⟨_,rfl,HB.out,HO.out⟩
end
section
open Go.RowKit Go.Lib Go.Maps
def AnsSaid(tb mb sb gb:Nat):Prop:=∀(M:Nat->Prop)(w:World)(s:Sg)(t:Nat)(W:PW)(b:ByteArray)(n:Int),Wd M w s tb mb sb gb W->WW W t->t+931000<=100000000->tJ (b.data.toList,n)->s.ns.length+300<=NsMax ->
 Calls prog 74 #[.iface 73 (.pointer (some ⟨sb,0,none⟩)),.agg #[.string b,.int .i64 n],.pointer (some ⟨tb,0,none⟩)] w fun e w'=>AnsP M w s tb mb sb gb (Pl.answer W (b.data.toList,n)) e w'
theorem set3at{X:World}{R o:Nat}{cur:Array Value}{T:TypeId}(h:X.heap[R]?=some (.cells cur T (0,0)))(hl:o+2<cur.size):∃c0 c1 c2,X.cell? ⟨R,o,none⟩=some c0/\X.frozen? ⟨R,o,none⟩=false /\
  (∀a:Value,(X.setCell ⟨R,o,none⟩ a).cell? ⟨R,o+1,none⟩=some c1/\(X.setCell ⟨R,o,none⟩ a).frozen? ⟨R,o+1,none⟩=false) /\
  (∀a b:Value,((X.setCell ⟨R,o,none⟩ a).setCell ⟨R,o+1,none⟩ b).cell? ⟨R,o+2,none⟩=some c2/\((X.setCell ⟨R,o,none⟩ a).setCell ⟨R,o+1,none⟩ b).frozen? ⟨R,o+2,none⟩=false):=by
 refine⟨cur[o]'(by omega),cur[o+1]'(by omega),cur[o+2]'hl,(aA h o).trans (Array.getElem?_eq_getElem _),aF h o,fun a=>⟨?_,aF (aD h o a) _⟩,fun a b=>⟨?_,aF (aD (aD h o a) (o+1) b) _⟩⟩
 ·rw [aA (aD h o a) (o+1),Array.getElem?_setIfInBounds,if_neg (by omega)];exact Array.getElem?_eq_getElem _
 ·rw [aA (aD (aD h o a) (o+1) b) (o+2),Array.getElem?_setIfInBounds,if_neg (by omega),Array.getElem?_setIfInBounds,if_neg (by omega)];exact Array.getElem?_eq_getElem _
def rowZ(w:World)(R o:Nat)(po:PO):World:=((w.setCell ⟨R,o,none⟩ (.int .i64 (po.code:Int))).setCell ⟨R,o+1,none⟩ (.string ⟨po.out.toArray⟩)).setCell ⟨R,o+2,none⟩ (.string ⟨po.val.toArray⟩)
structure RsI(M0:Nat->Prop)(w0 wr:World)(M:Nat->Prop)(s:Sg)(tb mb sb gb g:Nat)(ins:List (ByteArray×Int))(k:Nat):Prop where
 wd:Wd M wr s tb mb sb gb (Pl.session newW ((ins.take k).map inP)).1
 stp:Stp M0 w0 M wr
 ns:s.ns.length<=13+300*k
 ng:¬M g
 gw:w0.heap.size<=g
 row:∃cur,wr.heap[g]?=some (.cells cur TOc (0,0))/\cur.size=ins.length*3/\∀(j:Nat)(o:PO),(Pl.session newW ((ins.take k).map inP)).2[j]?=some o->cur[j*3]?=some (.int .i64 (o.code:Int))/\cur[j*3+1]?=some (.string ⟨o.out.toArray⟩)/\cur[j*3+2]?=some (.string ⟨o.val.toArray⟩)
theorem RsI.next{M0 M M2:Nat->Prop}{w0 wr w2:World}{s s2:Sg}{tb mb sb gb g k:Nat}{ins:List (ByteArray×Int)}{i:ByteArray×Int}{o1:Obj}(h:RsI M0 w0 wr M s tb mb sb gb g ins k)(hi:ins[k]?=some i)(hg0:8<=w0.heap.size)
  (q1:Stp M (wr.alloc o1) M2 w2) (q2:s2.ns.length<=s.ns.length+300) (q3:Wd M2 w2 s2 tb mb sb gb (Pl.answer (Pl.session newW ((ins.take k).map inP)).1 (inP i)).1) :
  RsI M0 w0 (rowZ w2 g (k*3) (Pl.answer (Pl.session newW ((ins.take k).map inP)).1 (inP i)).2) M2 s2 tb mb sb gb g ins (k+1):=by
 have hns:s2.ns.length<=13+300*(k+1):=Nat.le_trans q2 (Nat.le_trans (Nat.add_le_add_right h.ns 300) (Nat.le_of_eq (by rw [Nat.mul_succ,Nat.add_assoc])));obtain⟨cur,c1,c2,c3⟩:=h.row;have hgl:=aB c1;have hkl:=(List.getElem?_eq_some_iff.1 hi).1;have hB:Below wr.heap.size wr (wr.alloc o1):=(Below.refl _ _).alloc (Nat.le_refl _) _;obtain⟨e1,e2⟩:=((Stp.of_below (M:=M) hB).trans q1).block g hgl h.ng;have hb2:=e1.trans c1;generalize hpo:(Pl.answer (Pl.session newW ((ins.take k).map inP)).1 (inP i)).2=po;have g3:w2.grownBy (rowZ w2 g (k*3) po) (some g):=aC (aC (aE w2 g _ _) (aE _ g _ _)) (aE _ g _ _);have hs2:=h.stp.trans ((Stp.of_below (M:=M) hB).trans q1);have hgw:=h.gw;have hlen:(Pl.session newW ((ins.take k).map inP)).2.length=k:=by rw [Pl.session_len,List.length_map,List.length_take];omega
 have hlt3:∀j,j<w0.heap.size->j<w2.heap.size:=fun j hj=>Nat.lt_of_lt_of_le hj hs2.size
 have hsto:Sto w2 (rowZ w2 g (k*3) po):=by
  refine⟨g3.size,fun j x hj hx=>(g3.block j (aB hj) (fun e=>?_)).trans hj,fun j hj=>g3.block j (hlt3 j (by omega)) (fun e=>?_)⟩
  ·have:=Option.some.inj e;subst this;rw [hb2] at hj;exact hx cur _ (Option.some.inj hj).symm
  ·have:=Option.some.inj e;omega
 have hstp:Stp M0 w0 M2 (rowZ w2 g (k*3) po):=by refine⟨g3.os.trans hs2.os,g3.tape.trans hs2.tape,g3.output.trans hs2.output,Nat.le_trans hs2.size g3.size,fun j hj hn=>?_⟩;obtain⟨h1,h2⟩:=hs2.block j hj hn;exact⟨(g3.block j (hlt3 j hj) (fun e=>by have:=Option.some.inj e;omega)).trans h1,h2⟩
 have hwd:Wd M2 (rowZ w2 g (k*3) po) s2 tb mb sb gb (Pl.session newW ((ins.take (k+1)).map inP)).1:=by rw [iI hi];exact q3.sto hsto
 have hnew:=aD (aD (aD hb2 (k*3) (.int .i64 (po.code:Int))) (k*3+1) (.string ⟨po.out.toArray⟩)) (k*3+2) (.string ⟨po.val.toArray⟩);refine⟨hwd,hstp,hns,e2,hgw,_,hnew,by simpa using c2,fun j o hj=>?_⟩
 ·rw [iI hi,hpo] at hj;have hj':((Pl.session newW ((ins.take k).map inP)).2++[po])[j]?=some o:=hj;simp only [Array.getElem?_setIfInBounds,Array.size_setIfInBounds];rcases Nat.lt_trichotomy j k with hjk | rfl | hjk
  ·rw [List.getElem?_append_left (by omega)] at hj';obtain⟨d1,d2,d3⟩:=c3 j o hj';refine⟨?_,?_,?_⟩
   ·rw [if_neg (by omega),if_neg (by omega),if_neg (by omega)];exact d1
   ·rw [if_neg (by omega),if_neg (by omega),if_neg (by omega)];exact d2
   ·rw [if_neg (by omega),if_neg (by omega),if_neg (by omega)];exact d3
  ·rw [List.getElem?_append_right (by omega),hlen,Nat.sub_self] at hj';obtain rfl:po=o:=Option.some.inj hj';refine⟨?_,?_,?_⟩
   ·rw [if_neg (by omega),if_neg (by omega),if_pos rfl,if_pos (by omega)]
   ·rw [if_neg (by omega),if_pos rfl,if_pos (by omega)]
   ·rw [if_pos rfl,if_pos (by omega)]
  ·rw [List.getElem?_append_right (by omega),hlen,List.getElem?_eq_none (by simp;omega)] at hj'
   cases hj'
end
section
open Go.RowKit
def TInp:TypeId:=41
theorem Tryz.infoInp:(prog.info? 41).map (fun i=>(i.zero,i.size,i.bytes))=some (some (.agg #[.string ⟨#[]⟩,.int .i64 0]),2,24):=by kernel_rfl
def iL(i:ByteArray×Int):List Value:=[.string i.1,.int .i64 i.2]
def jT(fuel:Int)(i:ByteArray×Int):ByteArray×Int:=if fuel<i.2/\i.2<=1000000 then(i.1,fuel) else i
def eD(fuel:Int)(ins:List (ByteArray×Int)):List (ByteArray×Int):=(ins.take 60).map (jT fuel)++[(⟨#[55]⟩,1000000)]
def ScrIn(w:World)(v:Value)(ins:List (ByteArray×Int)):Prop:=∃ao cap,v=.slice ao ins.length cap/\ins.length<=cap/\∀(k:Nat)(i:ByteArray×Int),ins[k]?=some i->∃g off,ao=some ⟨g,off,none⟩/\g<w.heap.size/\w.cell? ⟨g,off+k*2,none⟩=some (.string i.1)/\w.cell? ⟨g,off+k*2+1,none⟩=some (.int .i64 i.2)
theorem p_short(w:World)(v:Value)(fuel:Int)(ins:List (ByteArray×Int))(hS:ScrIn w v ins)(hbig:ins.length<=maxLen) :Calls prog 18 #[v,.int .i64 fuel] w fun e w'=>∃rv,e=.returned rv/\Below w.heap.size w w'/\w'.ownsRow w.heap.size TInp 2 rv (eD fuel ins).length ((eD fuel ins).flatMap iL):=by
 obtain⟨i0,hi0,hz0,hz1,hz2⟩:=info_parts Tryz.infoInp;obtain⟨ao,cap,rfl,hcap,hcell⟩:=hS;have HC:Hid (∀(k:Nat)(i:ByteArray×Int),ins[k]?=some i->∃g off,ao=some ⟨g,off,none⟩/\g<w.heap.size/\w.cell? ⟨g,off+k*2,none⟩=some (.string i.1)/\w.cell? ⟨g,off+k*2+1,none⟩=some (.int .i64 i.2)):=hcell;clear hcell;go_enter func18,ntmps18;go_wp2_with fail
 go_loopw [5,6] (fun sv i wr=>∃k:Nat,(k<=ins.length/\k<=60)/\i=.int .i64 k/\Hid (Below w.heap.size w wr/\wr.ownsRow w.heap.size TInp 2 sv k (((ins.take k).map (jT fuel)).flatMap iL))) (fun _ i _=>ins.length-(intOf i).toNat)
 case atStart=>exact⟨0,⟨Nat.zero_le _,Nat.zero_le _⟩,rfl,⟨Below.refl _ _,World.ownsRow_nil _ _ _ _⟩⟩
 case round =>
  obtain⟨k,⟨hk,hk60⟩,rfl,HS⟩:=hrel;by_cases hlt:k<ins.length/\k<60
  ·obtain⟨i,hi⟩:∃i,ins[k]?=some i:=⟨ins[k],List.getElem?_eq_getElem hlt.1⟩
   obtain⟨g,off,rfl,hg,hc0,hc1⟩:=HC.out k i hi;obtain⟨s,n⟩:=i;have c0:wr.cell? ⟨g,off+k*2,none⟩=some (.string s):=(HS.out.1.cell (p:=⟨g,off+k*2,none⟩) hg).trans hc0;have c1:wr.cell? ⟨g,off+k*2+1,none⟩=some (.int .i64 n):=(HS.out.1.cell (p:=⟨g,off+k*2+1,none⟩) hg).trans hc1;have hl1:(k:Int)<(ins.length:Int):=by omega
   have hl2:(k:Int)<60:=by omega
   have hwr:=HS.out.1.size;have hrl:=HS.out.2.lt;have hgen:∀(x:Int)(wz w3:World)(g' cap':Nat),jT fuel (s,n)=(s,x)->Below w.heap.size w wz->w.heap.size<=wz.heap.size->w3.ownsRow w.heap.size TInp 2 (.slice (some ⟨g',0,none⟩) (k+1) cap') (k+1) (((ins.take k).map (jT fuel)).flatMap iL++[.string s,.int .i64 x])->wz.grownBy w3 u5.ownBlock->Below w.heap.size w w3/\w3.ownsRow w.heap.size TInp 2 (.slice (some ⟨g',0,none⟩) (k+1) cap') (k+1) (((ins.take (k+1)).map (jT fuel)).flatMap iL):=fun x wz w3 g' cap' hx hbz hsz h1 h2=>by refine⟨hbz.grown h2 hsz (fun j hj=>(hrl j hj).1),?_⟩;rw [List.take_add_one,hi,Option.toList_some,List.map_append,List.flatMap_append,List.map_cons,List.map_nil,hx];simpa [iL] using h1
   have HB2:Hid (∀o1 o2:Obj,Below w.heap.size w ((wr.alloc o1).alloc o2)):=fun o1 o2=>(HS.out.1.alloc hwr o1).alloc (by simp;omega) o2;clear hi hc0 hc1;by_cases h1:fuel<n
   ·by_cases h2:n<=1000000
    ·have hx:jT fuel (s,n)=(s,fuel):=by unfold jT;rw [if_pos ⟨h1,h2⟩]
     have HOw:Hid ((wr.alloc (.cells #[.string s,.int .i64 fuel] TInp)).ownsRow w.heap.size TInp 2 u5 k (((ins.take k).map (jT fuel)).flatMap iL)):=HS.out.2.alloc _;have HP:=(show Hid (∀(w3:World)(o2:Obj)(g' cap':Nat),w3.ownsRow w.heap.size TInp 2 (.slice (some ⟨g',0,none⟩) (k+1) cap') (k+1) (((ins.take k).map (jT fuel)).flatMap iL++[.string s,.int .i64 fuel])->((wr.alloc (.cells #[.string s,.int .i64 fuel] TInp)).alloc o2).grownBy w3 u5.ownBlock->Below w.heap.size w w3/\w3.ownsRow w.heap.size TInp 2 (.slice (some ⟨g',0,none⟩) (k+1) cap') (k+1) (((ins.take (k+1)).map (jT fuel)).flatMap iL)) from fun w3 o2 g' cap' q1 q2=>hgen fuel _ w3 g' cap' hx (HB2.out _ o2) (by simp;omega) q1 q2)
     clear hgen hx hrl HS;go_wp2_with (first | (at_builtin;refine wpList_append_lies _ rfl _ _ 26 rfl w.heap.size 41 i0 (.agg #[.string ⟨#[]⟩,.int .i64 0]) 2 24 underlying26 hi0 hz0 hz1 hz2 rfl (by decide) u5 k _ rfl (HOw.out.alloc _) ⟨wr.heap.size+1,0,none⟩ 1 1 [.string s,.int .i64 fuel] rfl rfl (World.news_of_block (cs:=#[.string s,.int .i64 fuel]) (t:=41) (fr:=(0,0)) (kM wr _ _)) (fun x hx=>by simp at hx;rcases hx with rfl | rfl<;>rfl) (by decide) (by unfold maxLen;omega) (by omega) (by simp;omega) (wr.heap.size+2) (by simp) ?_;intro g3 cap3 w3 hown3 hgrow3 hat3 _))
     go_roundw
     case rel=>exact⟨k+1,by omega,by go_num,HP.out w3 _ _ _ hown3 hgrow3⟩
     case measure=>simp [intOf];omega
    ·have hx:jT fuel (s,n)=(s,n):=by unfold jT;rw [if_neg (fun h=>h2 h.2)]
     have HOw:Hid ((wr.alloc (.cells #[.string s,.int .i64 n] TInp)).ownsRow w.heap.size TInp 2 u5 k (((ins.take k).map (jT fuel)).flatMap iL)):=HS.out.2.alloc _;have HP:=(show Hid (∀(w3:World)(o2:Obj)(g' cap':Nat),w3.ownsRow w.heap.size TInp 2 (.slice (some ⟨g',0,none⟩) (k+1) cap') (k+1) (((ins.take k).map (jT fuel)).flatMap iL++[.string s,.int .i64 n])->((wr.alloc (.cells #[.string s,.int .i64 n] TInp)).alloc o2).grownBy w3 u5.ownBlock->Below w.heap.size w w3/\w3.ownsRow w.heap.size TInp 2 (.slice (some ⟨g',0,none⟩) (k+1) cap') (k+1) (((ins.take (k+1)).map (jT fuel)).flatMap iL)) from fun w3 o2 g' cap' q1 q2=>hgen n _ w3 g' cap' hx (HB2.out _ o2) (by simp;omega) q1 q2)
     clear hgen hx hrl HS;go_wp2_with (first | (at_builtin;refine wpList_append_lies _ rfl _ _ 26 rfl w.heap.size 41 i0 (.agg #[.string ⟨#[]⟩,.int .i64 0]) 2 24 underlying26 hi0 hz0 hz1 hz2 rfl (by decide) u5 k _ rfl (HOw.out.alloc _) ⟨wr.heap.size+1,0,none⟩ 1 1 [.string s,.int .i64 n] rfl rfl (World.news_of_block (cs:=#[.string s,.int .i64 n]) (t:=41) (fr:=(0,0)) (kM wr _ _)) (fun x hx=>by simp at hx;rcases hx with rfl | rfl<;>rfl) (by decide) (by unfold maxLen;omega) (by omega) (by simp;omega) (wr.heap.size+2) (by simp) ?_;intro g3 cap3 w3 hown3 hgrow3 hat3 _))
     go_roundw
     case rel=>exact⟨k+1,by omega,by go_num,HP.out w3 _ _ _ hown3 hgrow3⟩
     case measure=>simp [intOf];omega
   ·have hx:jT fuel (s,n)=(s,n):=by unfold jT;rw [if_neg (fun h=>h1 h.1)]
    have HOw:Hid ((wr.alloc (.cells #[.string s,.int .i64 n] TInp)).ownsRow w.heap.size TInp 2 u5 k (((ins.take k).map (jT fuel)).flatMap iL)):=HS.out.2.alloc _;have HP:=(show Hid (∀(w3:World)(o2:Obj)(g' cap':Nat),w3.ownsRow w.heap.size TInp 2 (.slice (some ⟨g',0,none⟩) (k+1) cap') (k+1) (((ins.take k).map (jT fuel)).flatMap iL++[.string s,.int .i64 n])->((wr.alloc (.cells #[.string s,.int .i64 n] TInp)).alloc o2).grownBy w3 u5.ownBlock->Below w.heap.size w w3/\w3.ownsRow w.heap.size TInp 2 (.slice (some ⟨g',0,none⟩) (k+1) cap') (k+1) (((ins.take (k+1)).map (jT fuel)).flatMap iL)) from fun w3 o2 g' cap' q1 q2=>hgen n _ w3 g' cap' hx (HB2.out _ o2) (by simp;omega) q1 q2)
    clear hgen hx hrl HS;go_wp2_with (first | (at_builtin;refine wpList_append_lies _ rfl _ _ 26 rfl w.heap.size 41 i0 (.agg #[.string ⟨#[]⟩,.int .i64 0]) 2 24 underlying26 hi0 hz0 hz1 hz2 rfl (by decide) u5 k _ rfl (HOw.out.alloc _) ⟨wr.heap.size+1,0,none⟩ 1 1 [.string s,.int .i64 n] rfl rfl (World.news_of_block (cs:=#[.string s,.int .i64 n]) (t:=41) (fr:=(0,0)) (kM wr _ _)) (fun x hx=>by simp at hx;rcases hx with rfl | rfl<;>rfl) (by decide) (by unfold maxLen;omega) (by omega) (by simp;omega) (wr.heap.size+2) (by simp) ?_;intro g3 cap3 w3 hown3 hgrow3 hat3 _))
    go_roundw
    case rel=>exact⟨k+1,by omega,by go_num,HP.out w3 _ _ _ hown3 hgrow3⟩
    case measure=>simp [intOf];omega
  ·have htk:ins.take k=ins.take 60:=by
    by_cases h6:k=60
    ·rw [h6]
    ·rw [List.take_of_length_le (by omega),List.take_of_length_le (by omega)]
   have hlen:(eD fuel ins).length=k+1:=by unfold eD;rw [<- htk];simp;omega
   have hrl:=HS.out.2.lt;have hwr:=HS.out.1.size
   have HF:=(show Hid (∀(w3:World)(o2:Obj)(g' cap':Nat),w3.ownsRow w.heap.size TInp 2 (.slice (some ⟨g',0,none⟩) (k+1) cap') (k+1) (((ins.take k).map (jT fuel)).flatMap iL++[.string ⟨#[55]⟩,.int .i64 1000000])->(wr.alloc o2).grownBy w3 u5.ownBlock->Below w.heap.size w w3/\w3.ownsRow w.heap.size TInp 2 (.slice (some ⟨g',0,none⟩) (k+1) cap') (eD fuel ins).length ((eD fuel ins).flatMap iL)) from fun w3 o2 g' cap' q1 q2=>by
    refine⟨(HS.out.1.alloc hwr o2).grown q2 (by simp;omega) (fun j hj=>(hrl j hj).1),?_⟩;rw [hlen];unfold eD;rw [<- htk,List.flatMap_append]
    simpa [iL] using q1)
   have HOw:Hid (wr.ownsRow w.heap.size TInp 2 u5 k (((ins.take k).map (jT fuel)).flatMap iL)):=HS.out.2;clear htk hlen hrl HS;by_cases hl1:k<ins.length
   ·obtain rfl:k=60:=by omega
    have hl3:((60:Nat):Int)<(ins.length:Int):=by omega
    go_wp2_with (first | (at_builtin;refine wpList_append_lies _ rfl _ _ 26 rfl w.heap.size 41 i0 (.agg #[.string ⟨#[]⟩,.int .i64 0]) 2 24 underlying26 hi0 hz0 hz1 hz2 rfl (by decide) u5 (60) _ rfl (HOw.out.alloc _) ⟨wr.heap.size,0,none⟩ 1 1 [.string ⟨#[55]⟩,.int .i64 1000000] rfl rfl (World.news_of_block (cs:=#[.string ⟨#[55]⟩,.int .i64 1000000]) (t:=41) (fr:=(0,0)) (heap_alloc_new wr _)) (fun x hx=>by simp at hx;rcases hx with rfl | rfl<;>rfl) (by decide) (by unfold maxLen at *;omega) (by omega) (by simp;omega) (wr.heap.size+1) (by simp) ?_;intro g3 cap3 w3 hown3 hgrow3 hat3 _))
    go_ret;exact⟨_,rfl,(HF.out w3 _ _ _ hown3 hgrow3).1,(HF.out w3 _ _ _ hown3 hgrow3).2⟩
   ·obtain rfl:k=ins.length:=by omega
    go_wp2_with (first | (at_builtin;refine wpList_append_lies _ rfl _ _ 26 rfl w.heap.size 41 i0 (.agg #[.string ⟨#[]⟩,.int .i64 0]) 2 24 underlying26 hi0 hz0 hz1 hz2 rfl (by decide) u5 (ins.length) _ rfl (HOw.out.alloc _) ⟨wr.heap.size,0,none⟩ 1 1 [.string ⟨#[55]⟩,.int .i64 1000000] rfl rfl (World.news_of_block (cs:=#[.string ⟨#[55]⟩,.int .i64 1000000]) (t:=41) (fr:=(0,0)) (heap_alloc_new wr _)) (fun x hx=>by simp at hx;rcases hx with rfl | rfl<;>rfl) (by decide) (by unfold maxLen at *;omega) (by omega) (by simp;omega) (wr.heap.size+1) (by simp) ?_;intro g3 cap3 w3 hown3 hgrow3 hat3 _))
    go_ret;exact⟨_,rfl,(HF.out w3 _ _ _ hown3 hgrow3).1,(HF.out w3 _ _ _ hown3 hgrow3).2⟩
def OutAt(w:World)(v:Value)(l:List PO):Prop:=∃ao cap,v=.slice ao l.length cap/\l.length<=cap/\∀(k:Nat)(o:PO),l[k]?=some o->∃g,ao=some ⟨g,0,none⟩/\g<w.heap.size/\w.cell? ⟨g,k*3,none⟩=some (.int .i64 (o.code:Int))/\w.cell? ⟨g,k*3+1,none⟩=some (.string ⟨o.out.toArray⟩)/\w.cell? ⟨g,k*3+2,none⟩=some (.string ⟨o.val.toArray⟩)
theorem p_same(w:World)(v1 v2:Value)(l:List PO)(h1:OutAt w v1 l)(h2:OutAt w v2 l)(hl:l.length<=1000) :Calls prog 21 #[v1,v2] w fun e w'=>e=.returned (.bool true)/\∃n,w'=w.drewN n:=by
 obtain⟨ao1,cap1,rfl,hc1,hx1⟩:=h1;obtain⟨ao2,cap2,rfl,hc2,hx2⟩:=h2;have H1:Hid (∀(k:Nat)(o:PO),l[k]?=some o->∃g,ao1=some ⟨g,0,none⟩/\g<w.heap.size/\w.cell? ⟨g,k*3,none⟩=some (.int .i64 (o.code:Int))/\w.cell? ⟨g,k*3+1,none⟩=some (.string ⟨o.out.toArray⟩)/\w.cell? ⟨g,k*3+2,none⟩=some (.string ⟨o.val.toArray⟩)):=hx1;have H2:Hid (∀(k:Nat)(o:PO),l[k]?=some o->∃g,ao2=some ⟨g,0,none⟩/\g<w.heap.size/\w.cell? ⟨g,k*3,none⟩=some (.int .i64 (o.code:Int))/\w.cell? ⟨g,k*3+1,none⟩=some (.string ⟨o.out.toArray⟩)/\w.cell? ⟨g,k*3+2,none⟩=some (.string ⟨o.val.toArray⟩)):=hx2;clear hx1 hx2;go_enter func21,ntmps21;go_wp2_with fail
 go_loopw [5] (fun i wr=>∃(k n:Nat),k<=l.length/\i=.int .i64 k/\wr=w.drewN n) (fun i _=>l.length-(intOf i).toNat)
 case atStart=>exact⟨0,0,Nat.zero_le _,rfl,rfl⟩
 case round =>
  obtain⟨k,n,hk,rfl,rfl⟩:=hrel;by_cases hlt:k<l.length
  ·obtain⟨o,ho⟩:∃o,l[k]?=some o:=⟨l[k],List.getElem?_eq_getElem hlt⟩
   obtain⟨g,rfl,hg,a0,a1,a2⟩:=H1.out k o ho;obtain⟨g',rfl,hg',b0,b1,b2⟩:=H2.out k o ho;obtain⟨c,out,val⟩:=o;have hlt2:(k:Int)<(l.length:Int):=by omega
   clear ho;go_wp2_with fail;first | go_quiet (fail) | skip
   go_wp2_with fail
   go_roundw
   case rel=>exact⟨k+1,_,by omega,by go_num,rfl⟩
   case measure=>simp [intOf];omega
  ·obtain rfl:k=l.length:=by omega
   go_wp2_with fail
   go_ret;exact⟨rfl,n,rfl⟩
end
end Go.Proofs.YtkgbdddkcjpgfaaGreatDoor
