import Derived.Test.YtkgbdddkcjpgfaaGreatDoorT41
import Derived.Test.YtkgbdddkcjpgfaaGreatDoorT19
namespace Go.Proofs.YtkgbdddkcjpgfaaGreatDoor
set_option maxHeartbeats 4000000
set_option maxRecDepth 100000
open Go.Proofs.Tryz
open Pl (PV PW PS PF AE PO FK AL A8)
section
open Go.RowKit
variable {w w0 w' a b:World} {wb lo hi n:Nat} {pv qv cv lv gv pv':Value} {qs cs:List Value} {c:Array Value}
def mL(W:PW)(S:PS)(n:Nat):AE:=if n=0 then Pl.cut (Pl.text W.pairs S.val) else []
def oH(n:Nat)(out val:AE):Value:=.agg #[.int .i64 (n:Int),.string ⟨out.toArray⟩,.string ⟨val.toArray⟩]
theorem xS(D:AY)(w:World)(wb m:Nat)(M:Nat->Prop)(W:PW)(S:PS)(n:Nat)(hn:n<=100)(X:RW w wb M W)(E:Gs w M)(y:L2 W)(F:n=0->RS M w m S/\S.form=none/\BL W S.val) :Calls prog 57 #[.pointer (some ⟨wb,0,none⟩),.pointer (some ⟨m,0,none⟩),.int .i64 n] w fun e z=>e=.returned (oH n W.out (mL W S n))/\Below w.heap.size w z:=by
 have HW:Hid (RW w wb M W):=X;obtain⟨pv,qv,cv,lv,gv,qs,cs,hM,f⟩:=X;have G:=aB f.blk;have c5:w.cell? ⟨wb,5,none⟩=some (.string ⟨W.out.toArray⟩):=aA f.blk 5;obtain⟨a1,_,a3,_⟩:=bM (o:=5) G;have a:Hid (∀b c:Obj,Below w.heap.size w ((w.alloc b).alloc c)):=fun b c=>b_.alloc (by simp) _;have Y:=f.out;clear hM f;by_cases H:n=0
 ·subst H;obtain⟨hR,Z,A⟩:=F rfl;obtain⟨fv,ev,x0,x1,x2,aa,d,s1,_,_⟩:=hR;simp only [JN,Z] at s1;obtain⟨_,j⟩:=s1;simp only [cZ,List.cons.injEq,and_true] at j;obtain⟨rfl,rfl,rfl⟩:=j;have ab:=aB d;have I:Hid (mL W S 0=Pl.cut (Pl.text W.pairs S.val)):=rfl;have y2:w.cell? ⟨m,2,none⟩=some (.string ⟨(vK S.val).toArray⟩):=aA d 2;have y3:w.cell? ⟨m,3,none⟩=some (.int .i64 (vN S.val)):=aA d 3;have y4:w.cell? ⟨m,4,none⟩=some (.string ⟨(vS S.val).toArray⟩):=aA d 4;have qB:∀(b c:Obj)(k g:Nat),k<w.heap.size->((w.alloc b).alloc c).cell? ⟨k,g,none⟩=w.cell? ⟨k,g,none⟩:=fun b c k g hk=>(a b c).cell (p:=⟨k,g,none⟩) hk
  have J:Hid (Pl.B7 S.val<=1000000000):=show _<=_ from by
   have h2:=y.len
   cases K:S.val with
   | pair i=>rw [K] at A;simp only [Pl.B7];have:i<W.pairs.length:=A;omega
   | _=>simp [Pl.B7]
  have L:Hid (∀b c:Obj,Calls prog 86 #[.pointer (some ⟨wb,0,none⟩),.agg #[.string ⟨(vK S.val).toArray⟩,.int .i64 (vN S.val),.string ⟨(vS S.val).toArray⟩],.string ⟨#[]⟩] ((w.alloc b).alloc c) fun e z=>IC W S.val [] 1000000000 ((w.alloc b).alloc c) e z):=fun b c =>lF D wb M W y 1000000000 n_ _ S.val [] (HW.later (a b c)) (E.below (a b c)) A J (by simp);clear F Z A d E y D;generalize vK S.val=kk at *;generalize vN S.val=nn at *;generalize vS S.val=ss at *;go_enter func57,ntmps57;go_wp2_with fail;refine(L _ _).mono ?_;rintro e h ⟨B,r,rfl,hq,q⟩;have s:=(B.block w.heap.size (by simp;omega)).trans ((k_ (by simp)).trans (heap_alloc_new w _));have u:=(B.block (w.heap.size+1) (by simp)).trans (zN w _ _ _);have N:Hid (Below w.heap.size w h):=(a _ _).trans (B.mono (a _ _).size);have HQ:Hid (Pl.cut r=Pl.cut (Pl.text W.pairs S.val)):=hq.cut;have O:Hid (r.length<=2000000000):=show _<=_ from by simp only [z_] at q;omega
  have P:Hid (h.heap[w.heap.size]?=some (.cells #[.int .i64 0,.string ⟨#[]⟩,.string ⟨#[]⟩] 43 (0,0))):=s;have l:Hid (h.heap[w.heap.size+1]?=some (.cells #[.int .i64 0,.string ⟨W.out.toArray⟩,.string ⟨#[]⟩] 43 (0,0))):=u;clear B hq q s u;go_wp2_with fail;refine(uE _ r (by have:=O.out;omega)).mono ?_;rintro e z ⟨rfl,rfl⟩;rw [HQ.out];have p2:h.cell? ⟨w.heap.size+1,2,none⟩=some (.string ⟨#[]⟩):=aA l 2;have f2:h.frozen? ⟨w.heap.size+1,2,none⟩=false:=aF l 2;have C:∀v:Value,(h.setCell ⟨w.heap.size+1,2,none⟩ v).heap[w.heap.size+1]?=some (.cells #[.int .i64 0,.string ⟨W.out.toArray⟩,v] 43 (0,0)):=fun v=>aD l 2 v;have hY:∀v:Value,(h.setCell ⟨w.heap.size+1,2,none⟩ v).heap[w.heap.size]?=some (.cells #[.int .i64 0,.string ⟨#[]⟩,.string ⟨#[]⟩] 43 (0,0)):=fun v=>by rw [Below.heap_setCell _ _ _ _ (fun e=>by simp at e)];exact P
  have Q:=fun v=>aA (C v) 0;have R:=fun v=>aA (C v) 1;have U:=fun v=>aA (C v) 2;simp only [List.getElem?_toArray,List.getElem?_cons_succ,List.getElem?_cons_zero] at Q R U;have x:Hid (∀v:Value,Below w.heap.size w (h.setCell ⟨w.heap.size+1,2,none⟩ v)):=fun v=>bO N (by omega) _ _;have T:=fun v=>FA (hY v);generalize Pl.cut (Pl.text W.pairs S.val)=t at *;have T':=T (.string ⟨t.toArray⟩);have Z0:=Q (.string ⟨t.toArray⟩);have Z1:=R (.string ⟨t.toArray⟩);have Z2:=U (.string ⟨t.toArray⟩);obtain⟨t0,t1,t2,u0,u1,u2,r1,r2,r3⟩:=T';have V:Hid (Below w.heap.size w (h.setCell ⟨w.heap.size+1,2,none⟩ (.string ⟨t.toArray⟩))):=x.out _;clear Q R U T C hY x;go_wp2_with fail
  (try simp only [Exit.inBlock,Exit.then])
  refine bodyPost_ret (v:=oH 0 W.out t) ?_ rfl ?_
  ·rw [aO rfl];simp only [oH]
   go_simp
  ·refine⟨by rw [I.out],?_⟩;exact bO (bO (bO V n_ _ _) n_ _ _) n_ _ _
 ·have I:Hid (mL W S n=[]):=show mL W S n=[] from by unfold mL;rw [if_neg H]
  have ac:((n:Int)==0)=false:=by rw [beq_eq_false_iff_ne];omega
  clear F H E y D;go_enter func57,ntmps57;go_wp2_with fail
  (try simp only [Exit.inBlock,Exit.then])
  refine bodyPost_ret (v:=oH n W.out []) ?_ rfl ?_
  ·rw [aO rfl];simp only [oH]
   go_simp
   try rfl
  ·exact⟨by rw [I.out],a _ _⟩
structure FP(w0 w:World)(wb:Nat)(W:PW)(pv qv cv lv gv:Value)(qs cs:List Value)(l:List (PV×PV))(pv':Value):Prop where
 old:EV w0 wb W pv qv cv lv gv qs cs
 IV:Chg w0 w wb pv.ownBlock
 blk:w.heap[wb]?=some (.cells #[pv',qv,cv,lv,gv,AM W.out] MG (0,0))
 row:w.ownsRow 0 VR 6 pv' (W.pairs.length+l.length) ((W.pairs++l).flatMap mG)
 at_:∀k,pv'.ownBlock=some k->pv.ownBlock=some k\/w0.heap.size<=k
theorem FP.start{W:PW}(h:EV w0 wb W pv qv cv lv gv qs cs)(a:Below w0.heap.size w0 w):FP w0 w wb W pv qv cv lv gv qs cs [] pv:=by have c:=h.later (fun k b=>a.block k b) (Stp.AA a);exact⟨h,⟨a.os,a.tape,a.output,a.size,fun k b _ _=>a.block k b⟩,c.blk,by simpa using c.pr,fun k b=>.inl b⟩
theorem FP.grown{W:PW}{l:List (PV×PV)}(h:FP w0 w wb W pv qv cv lv gv qs cs l pv'){row:Option Nat}(a:w.grownBy w' row)(d:∀k,row=some k->w0.heap.size<=k/\pv'.ownBlock≠some k):FP w0 w' wb W pv qv cv lv gv qs cs l pv':=by
 have m:=aB h.old.blk;have f:=h.IV.size;refine⟨h.old,⟨a.os.trans h.IV.os,a.tape.trans h.IV.tape,a.output.trans h.IV.output,t_ f a.size,fun k n o p=>?_⟩,?_,?_,h.at_⟩
 ·rw [a.block k (by omega) (fun e=>by have:=(d k e.symm).1;omega)];exact h.IV.block k n o p
 ·rw [a.block wb (aB h.blk) (fun e=>by have:=(d wb e.symm).1;omega)];exact h.blk
 ·refine⟨h.row.1,?_⟩;rcases h.row.2 with q | ⟨g,i,j,rfl,r,b,c⟩
  ·exact .inl q
  ·exact .inr ⟨g,i,j,rfl,r,(a.block g (aB b) (fun e=>(d g e.symm).2 rfl)).trans b,c⟩
theorem FP.later{W:PW}{l:List (PV×PV)}(h:FP w0 w wb W pv qv cv lv gv qs cs l pv')(a:Below w.heap.size w w'):FP w0 w' wb W pv qv cv lv gv qs cs l pv' :=h.grown (aQ none a) (fun k e=>by cases e)
theorem FP.done{W:PW}{l:List (PV×PV)}(h:FP w0 w wb W pv qv cv lv gv qs cs l pv') :EV w wb {W with pairs:=W.pairs++l} pv' qv cv lv gv qs cs/\Stp (CQ wb [pv,qv,cv,lv,gv]) w0 (CQ wb [pv',qv,cv,lv,gv]) w:=by have a:=aN h.old.pr;have c:Stp (CQ wb [pv,qv,cv,lv,gv]) w0 (CQ wb [pv',qv,cv,lv,gv]) w :=h.IV.AQ (fun k e=>.inr ⟨pv,by simp,e⟩) (fJ (v:=pv) (v':=pv') (by simp) (by intro x d;simp only [List.mem_cons,List.not_mem_nil,or_false] at d ⊢;rcases d with rfl | rfl | rfl | rfl | rfl<;>simp) h.at_);refine⟨h.old.upd c h.blk ?_ (aL h.old.pc h.IV h.old.blk a (by decide) (by decide)) (aL h.old.cn h.IV h.old.blk a (by decide) (by decide)) (aL h.old.pl h.IV h.old.blk a (by decide) (by decide)) (aL h.old.gl h.IV h.old.blk a (by decide) (by decide)) h.old.out (fun i p b=>.inl ⟨b,rfl,rfl⟩) (fun i f b=>.inl ⟨b,rfl⟩),c⟩;simpa using h.row
theorem FP.ne{W:PW}{l:List (PV×PV)}(h:FP w0 w wb W pv qv cv lv gv qs cs l pv'):∀k,pv'.ownBlock=some k->k≠wb/\k<w.heap.size:=fun k b=>by obtain⟨c,a⟩:=aN h.row k b;exact⟨fun e=>by subst e;exact absurd (aK a h.blk).2 (by decide),aB a⟩
theorem uC(E w:World)(wb:Nat)(W:PW)(F G I J K:Value)(L cs:List Value)(l:List (PV×PV))(d:Value)(x y:PV)(h:FP E w wb W F G I J K L cs l d)(hn:W.pairs.length+l.length<=1000000000) :Calls prog 174 #[.pointer (some ⟨wb,0,none⟩),bT x,bT y] w fun e M=>e=.returned (bT (.pair (W.pairs.length+l.length)))/\∃r,FP E M wb W F G I J K L cs (l++[(x,y)]) r/\w.heap.size<=M.heap.size/\(∀k,k<w.heap.size->k≠wb->d.ownBlock≠some k->M.heap[k]?=w.heap[k]?):=by
 obtain⟨i0,O,P,Q,R⟩:=info_parts Tryz.TW;have H:=h_ h;have s:=aB h.blk;have aa:=aB h.old.blk;have ab:=h.IV.size;have c3:w.cell? ⟨wb,0,none⟩=some d:=aA h.blk 0;have a3:=fun C S T=>(YW (o:=0) s C S T C).1;have a4:=fun C S T o4=>(YW (o:=0) s C S T o4).2.1;clear h;obtain⟨N,U⟩:∃N,N=W.pairs.length+l.length:=⟨_,rfl⟩
 have HN:=h_ U;rw [<- U] at hn ⊢;clear U;have c:Hid (w.ownsRow 0 VR 6 d N ((W.pairs++l).flatMap mG)):=show World.ownsRow _ _ _ _ _ _ _ from by rw [HN.out];exact H.row
 unfold bT AM;go_enter func174,ntmps174;go_wp2_with fail
 go_region_law ((refine step_append_lies _ (by rfl) _ _ _ (by rfl) 0 263 i0 _ 6 80 underlying90 O P Q R rfl (by omega) d N ((W.pairs++l).flatMap mG) (by rfl) (((((c.alloc _).alloc _).alloc _).alloc _).drew) ⟨w.heap.size+3,0,none⟩ 1 1 (mG (x,y)) (by rfl) (by rfl) (World.news_of_block (cs:=#[AM (vK x),.int .i64 (vN x),AM (vS x),AM (vK y),.int .i64 (vN y),AM (vS y)]) (t:=263) (fr:=(0,0)) (B_ w _ _ _ _ _)) (by simp [Value.oneCell',cZ,mG,AM]) (by omega) (by unfold maxLen;omega) (by omega) (by simp) (w.heap.size+4) (by simp) ?_;intro i b D j a m u;obtain⟨k1,k2,k3⟩:=fD H.blk (jU w _ _ _ _) a (aN c) (by decide) 0 d rfl))
 all_goals
  have hX:=tV (wb:=wb) (wO a (new3 w _ _ _ _ _) (fun e=>by have:=(c.lt _ e).2;omega)) (show w.heap.size+2≠wb from by omega) 0 (.slice (some ⟨i,0,none⟩) (N+1) b)
  have z:i≠w.heap.size+2:=by
   rcases m with e | rfl
   ·have:=(c.lt _ e).2;omega
   ·omega
  have Q1:Hid (FP E (D.setCell ⟨wb,0,none⟩ (.slice (some ⟨i,0,none⟩) (N+1) b)) wb W F G I J K L cs (l++[(x,y)]) (.slice (some ⟨i,0,none⟩) (N+1) b)):=by
   have A:=mJ H.blk (jU w _ _ _ _) a (aN c) (by decide);have n:=dJ (jU w _ _ _ _) a (wb:=wb) 0 (.slice (some ⟨i,0,none⟩) (N+1) b);have f:=H.IV;refine⟨H.old,⟨n.os.trans f.os,n.tape.trans f.tape,n.output.trans f.output,t_ f.size n.size,fun k g p q=>?_⟩,by rw [aD A];rfl,?_,?_⟩
   ·rw [n.block k (l_ g f.size) p ?_,f.block k g p q];intro e;rcases H.at_ k e.symm with B | B
    ·exact q B.symm
    ·omega
   ·have this:World.ownsRow _ 0 VR 6 _ _ _:=fH A (by decide) 0 (.slice (some ⟨i,0,none⟩) (N+1) b) j;rw [a_,List.length_singleton,<-Nat.add_assoc,<-HN.out,<-List.append_assoc,List.flatMap_append];simpa using this
   ·intro k g;simp only [Value.ownBlock,o_] at g;subst g;rcases m with B | B
    ·exact H.at_ _ B
    ·have:=f.size;exact .inr (by omega)
  have V:Hid (w.heap.size<=(D.setCell ⟨wb,0,none⟩ (.slice (some ⟨i,0,none⟩) (N+1) b)).heap.size/\(∀k,k<w.heap.size->k≠wb->d.ownBlock≠some k->(D.setCell ⟨wb,0,none⟩ (.slice (some ⟨i,0,none⟩) (N+1) b)).heap[k]?=w.heap[k]?)):=by have n:=dJ (jU w _ _ _ _) a (wb:=wb) 0 (.slice (some ⟨i,0,none⟩) (N+1) b);exact⟨n.size,fun k g p q=>n.block k g p (fun e=>q e.symm)⟩
  have Y:=h_ z;have k4:=k3 (.slice (some ⟨i,0,none⟩) (N+1) b);clear j a m u H c k1 k2 k3 z;generalize D.setCell ⟨wb,0,none⟩ (.slice (some ⟨i,0,none⟩) (N+1) b)=X at *;obtain⟨r0,r1,r2,f0,f1,f2,s1,s2,s3⟩:=FA hX;clear hX;go_wp2_with fail
  (try simp only [Exit.inBlock,Exit.then])
  refine bodyPost_ret (v:=bT (.pair N)) ?_ rfl ?_
  ·rw [aO rfl];simp only [bT,AM,vK,vN,vS,pI]
   go_simp
  ·have Z:=e6 X (w.heap.size+2) (.string ⟨#[112,97,105,114]⟩) (.int .i64 N) (.string ⟨#[]⟩);refine⟨rfl,_,Q1.grown Z (fun k g=>⟨by simp at g;omega,fun e=>by simp at g;subst g;simp only [Value.ownBlock,o_] at e;exact Y.out e⟩),t_ V.1 Z.size,fun k g p q=>?_⟩;rw [Z.block k (l_ g V.1) (by simp;omega)];exact V.2 k g p q
def B4(w w':World):Prop:=∀(k:Nat)(cur:Array Value)(e:TypeId),e≠MG->e≠VR->w.heap[k]?=some (.cells cur e (0,0))->w'.heap[k]?=some (.cells cur e (0,0))
theorem B4.trans{c:World}(h:B4 a b)(k:B4 b c):B4 a c:=fun i d e f g j=>k i d e f g (h i d e f g j)
theorem B4.AA(h:Below w.heap.size w w'):B4 w w':=fun k _ _ _ _ a=>(h.block k (aB a)).trans a
theorem B4.ME(h:B4 w w'):CU (fun _=>True) w w':=fun k a e _ b c=>h k a e (by rcases b with rfl | rfl<;>decide) (by rcases b with rfl | rfl<;>decide) c
theorem FP.TT{W:PW}{l:List (PV×PV)}(h:FP w0 w wb W pv qv cv lv gv qs cs l pv')(b:∀k,k<w.heap.size->k≠wb->pv'.ownBlock≠some k->w'.heap[k]?=w.heap[k]?):B4 w w':=by intro k d e f g a;rw [b k (aB a) (fun e=>by subst e;exact f (aK a h.blk).2) (fun e=>by obtain⟨c,i⟩:=aN h.row k e;exact g (aK a i).2)];exact a
def LL(w0 w:World)(wb:Nat)(W:PW)(pv qv cv lv gv:Value)(qs cs:List Value)(l:List (PV×PV))(r:PV×List (PV×PV))(e:Ending)(w':World):Prop :=e=.returned (bT r.1)/\∃pv'',FP w0 w' wb W pv qv cv lv gv qs cs (l++r.2) pv''/\B4 w w'
def LK(w0:World)(wb:Nat)(W:PW)(pv qv cv lv gv:Value)(qs cs:List Value)(n:Nat):Prop :=
 ∀(w:World) (l:List (PV×PV)) (pv':Value) (dv:Value) (t:Pl.A9),FP w0 w wb W pv qv cv lv gv qs cs l pv'->AJ (fun _=>True) n w dv t->cL n t->W.pairs.length+l.length+(Pl.made n (W.pairs.length+l.length) t).2.length<=1000000000 ->
  Calls prog 129 #[.pointer (some ⟨wb,0,none⟩),dv] w fun e w'=>LL w0 w wb W pv qv cv lv gv qs cs l (Pl.made n (W.pairs.length+l.length) t) e w'
theorem lK(y:World)(wb:Nat)(W:PW)(z A B C D:Value)(E cs:List Value)(n:Nat)(w:World)(l:List (PV×PV))(c:Value)(dv:Value)(t:Pl.A9)(g:FP y w wb W z A B C D E cs l c)(I:AJ (fun _=>True) (n+1) w dv t)(h:cL (n+1) t)(q:¬∃r,t=.agg r) :Calls prog 129 #[.pointer (some ⟨wb,0,none⟩),dv] w fun e J=>LL y w wb W z A B C D E cs l (Pl.made (n+1) (W.pairs.length+l.length) t) e J:=by
 have i:=h_ g;obtain⟨b,rfl,_,K⟩:=I;have M:∀(o:Obj)(k d:Nat),k<w.heap.size->(w.alloc o).cell? ⟨k,d,none⟩=w.cell? ⟨k,d,none⟩:=fun o k d L=>(r_.alloc n_ o).cell (p:=⟨k,d,none⟩) L
 match t,K,h,q with
 | .lit (.int k m),⟨u,a,F⟩,h,_ =>
  obtain rfl:u=m:=F h;have f:=aB a;have G:w.cell? ⟨b,0,none⟩=some (.string ⟨#[110,117,109,98,101,114]⟩):=aA a 0;have j:w.cell? ⟨b,1,none⟩=some (.int .i64 u):=aA a 1;have H:w.cell? ⟨b,2,none⟩=some (.string ⟨#[]⟩):=aA a 2;clear a F h g;go_enter func129,ntmps129;go_wp2_with fail
  go_region
  all_goals
   go_wp2_with fail
   (try simp only [Exit.inBlock,Exit.then])
   refine bodyPost_ret (v:=bT (.num u)) ?_ rfl ?_
   ·rw [aO rfl];simp only [bT,AM,vK,vN,vS,kNu]
    go_simp
    try rfl
   ·refine⟨rfl,c,?_,B4.AA (cM w _)⟩;show FP _ _ _ _ _ _ _ _ _ _ _ (l++[]) _;rw [List.append_nil];exact i.later (cM w _)
 | .lit (.bool x),a,_,_ =>
  have f:=aB a;have G:w.cell? ⟨b,0,none⟩=some (.string ⟨#[116,114,117,116,104]⟩):=aA a 0;have j:w.cell? ⟨b,1,none⟩=some (.int .i64 (if x then 1 else 0)):=aA a 1;have H:w.cell? ⟨b,2,none⟩=some (.string ⟨#[]⟩):=aA a 2;clear a g
  cases x with
  | true =>
   simp only [↓reduceIte] at j;go_enter func129,ntmps129;go_wp2_with fail
   go_region
   all_goals
    go_wp2_with fail
    (try simp only [Exit.inBlock,Exit.then])
    refine bodyPost_ret (v:=bT (.AT true)) ?_ rfl ?_
    ·rw [aO rfl];simp only [bT,AM,vK,vN,vS,F_]
     go_simp
     try rfl
    ·refine⟨rfl,c,?_,B4.AA (cM w _)⟩;show FP _ _ _ _ _ _ _ _ _ _ _ (l++[]) _;rw [List.append_nil];exact i.later (cM w _)
  | false =>
   simp only [↓reduceIte,Bool.false_eq_true] at j;go_enter func129,ntmps129;go_wp2_with fail
   go_region
   all_goals
    go_wp2_with fail
    (try simp only [Exit.inBlock,Exit.then])
    refine bodyPost_ret (v:=bT (.AT false)) ?_ rfl ?_
    ·rw [aO rfl];simp only [bT,AM,vK,vN,vS,F_]
     go_simp
     try rfl
    ·refine⟨rfl,c,?_,B4.AA (cM w _)⟩;show FP _ _ _ _ _ _ _ _ _ _ _ (l++[]) _;rw [List.append_nil];exact i.later (cM w _)
 | .lit (.string s),a,_,_ =>
  have f:=aB a;have G:w.cell? ⟨b,0,none⟩=some (.string ⟨#[110,97,109,101]⟩):=aA a 0;have j:w.cell? ⟨b,1,none⟩=some (.int .i64 0):=aA a 1;have H:w.cell? ⟨b,2,none⟩=some (.string ⟨s.toArray⟩):=aA a 2;clear a g;go_enter func129,ntmps129;go_wp2_with fail
  go_region
  all_goals
   go_wp2_with fail
   (try simp only [Exit.inBlock,Exit.then])
   refine bodyPost_ret (v:=bT (.name s)) ?_ rfl ?_
   ·rw [aO rfl];simp only [bT,AM,vK,vN,vS,kNa]
    go_simp
    try rfl
   ·refine⟨rfl,c,?_,B4.AA (cM w _)⟩;show FP _ _ _ _ _ _ _ _ _ _ _ (l++[]) _;rw [List.append_nil];exact i.later (cM w _)
 | .agg r,_,_,q=>exact absurd ⟨r,rfl⟩ q
theorem eU(f:Nat->Pl.A9->PV×List (PV×PV))(b:Nat)(x:Pl.A9)(r:List Pl.A9):AL f b (x::r)=((.pair (b+(AL f b r).2.length+(f (b+(AL f b r).2.length) x).2.length)),(AL f b r).2++(f (b+(AL f b r).2.length) x).2++[((f (b+(AL f b r).2.length) x).1,(AL f b r).1)]):=rfl
theorem gC(f:Nat->Pl.A9->PV×List (PV×PV))(b:Nat):∀(k:Nat)(a:List Pl.A9),(AL f b (a.drop k)).2.length<=(AL f b a).2.length
 | 0,a=>by simp
 | k+1,[]=>by simp
 | k+1,x::r=>by have:=gC f b k r;rw [List.drop_succ_cons,eU];simp only [a_];omega
theorem uI{W:PW}{l:List (PV×PV)}(h:FP w0 w wb W pv qv cv lv gv qs cs l pv'){R:Nat}(a:w0.heap.size<=R)(b:w.heap[R]?=some (.cells c TV (0,0)))(x y z:Value):FP w0 (((w.setCell ⟨R,0,none⟩ x).setCell ⟨R,1,none⟩ y).setCell ⟨R,2,none⟩ z) wb W pv qv cv lv gv qs cs l pv' :=
 h.grown (e6 w R x y z) (fun k d=>by
  obtain rfl:=i_ d
  exact⟨a,fun e=>by obtain⟨g,f⟩:=aN h.row R e;exact absurd (aK b f).2 (by decide)⟩)
theorem lJ(s:World)(wb:Nat)(W:PW)(t y z A B:Value)(C cs:List Value)(n:Nat)(hM:LK s wb W t y z A B C cs n)(w:World)(l:List (PV×PV))(M:Value)(dv:Value)(c:List Pl.A9)(hJ:FP s w wb W t y z A B C cs l M)(hR:AJ (fun _=>True) (n+1) w dv (.agg c))(hB:cL (n+1) (.agg c))(hn:W.pairs.length+l.length+(Pl.made (n+1) (W.pairs.length+l.length) (.agg c)).2.length<=1000000000) :Calls prog 129 #[.pointer (some ⟨wb,0,none⟩),dv] w fun e w'=>LL s w wb W t y z A B C cs l (Pl.made (n+1) (W.pairs.length+l.length) (.agg c)) e w':=by
 have HJ:Hid (FP s w wb W t y z A B C cs l M):=hJ;have aw:Hid (LK s wb W t y z A B C cs n):=hM;have HR:Hid (AJ (fun _=>True) (n+1) w dv (.agg c)):=hR;have ax:Hid (∀x∈c,cL n x):=hB;have bx:=hJ.IV.size;obtain⟨b,bt,us,rfl,bz,ck,c3,hS,N,hA⟩:=hR.list;have HA:Hid (∀(i:Nat)(u:Value)(x:Tr),us[i]?=some u->c[i]?=some x->AJ (fun _=>True) n w u x):=hA;have bv:=hR.short;obtain⟨ao,ca,rfl,aa,D⟩:=hS;rw [N] at c3 aa;have HC:Hid (∀(i:Nat)(u:Value),us[i]?=some u->∃g a,ao=some ⟨g,a,none⟩/\g<w.heap.size/\w.cell? ⟨g,a+i,none⟩=some u):=D;have cb:Hid (us.length=c.length):=N;have cc:w.cell? ⟨b,0,none⟩=some (.string ⟨#[108,105,115,116]⟩):=ck;have qA:∀(o:Obj)(k a:Nat),k<w.heap.size->(w.alloc o).cell? ⟨k,a,none⟩=w.cell? ⟨k,a,none⟩:=fun o k a Y=>(r_.alloc n_ o).cell (p:=⟨k,a,none⟩) Y;have qB:∀(o Z:Obj)(k a:Nat),k<w.heap.size->((w.alloc o).alloc Z).cell? ⟨k,a,none⟩=w.cell? ⟨k,a,none⟩:=fun o Z k a Y=>((r_.alloc n_ o).alloc (by simp) Z).cell (p:=⟨k,a,none⟩) Y;have ab:Hid (∀o1 Z:Obj,Below w.heap.size w ((w.alloc o1).alloc Z)):=fun o1 Z=>b_.alloc (by simp) _;have ac:Hid (W.pairs.length+l.length+(AL (Pl.made n) (W.pairs.length+l.length) c).2.length<=1000000000):=hn;clear hJ hM hR hB ck N hA D hn;go_enter func129,ntmps129;go_wp2_with fail
 go_loopw [6,7] (fun iv _ wr=>∃(k:Nat)(E:Value),k<=c.length/\iv=.int .i64 ((k:Int)-1)/\Hid (FP s wr wb W t y z A B C cs (l++(AL (Pl.made n) (W.pairs.length+l.length) (c.drop k)).2) E)/\Hid (wr.heap[w.heap.size+1]?=some (.cells #[AM (vK (AL (Pl.made n) (W.pairs.length+l.length) (c.drop k)).1),.int .i64 (vN (AL (Pl.made n) (W.pairs.length+l.length) (c.drop k)).1),AM (vS (AL (Pl.made n) (W.pairs.length+l.length) (c.drop k)).1)] TV (0,0)))/\Hid (wr.heap[w.heap.size]?=some (.cells #[.string ⟨#[]⟩,.int .i64 0,.string ⟨#[]⟩] TV (0,0)))/\Hid (B4 w wr)) (fun iv _ _=>(intOf iv+1).toNat)
 case atStart =>
  refine⟨c.length,M,n_,by go_num,?_,?_,?_,B4.AA (ab _ _)⟩
  ·show FP _ _ _ _ _ _ _ _ _ _ _ _ _;rw [List.drop_length];show FP _ _ _ _ _ _ _ _ _ _ _ (l++[]) _;rw [List.append_nil];exact HJ.later (ab _ _)
  ·show _=_;rw [List.drop_length];have:=heap_alloc_new (w.alloc (.cells #[.string ⟨#[]⟩,.int .i64 0,.string ⟨#[]⟩] 154)) (.cells #[.string ⟨#[101,109,112,116,121]⟩,.int .i64 0,.string ⟨#[]⟩] 154);rw [show(w.alloc (.cells #[.string ⟨#[]⟩,.int .i64 0,.string ⟨#[]⟩] 154)).heap.size=w.heap.size+1 from by simp] at this;exact this
  ·exact(k_ (by simp)).trans (heap_alloc_new w _)
 case round =>
  obtain⟨k,E,Y,rfl,ad,O,P,G⟩:=hrel;by_cases ay:k=0
  ·subst ay;have Q:=ad.out;have r:=O.out;rw [List.drop_zero] at Q r;have az:Hid _:=r;have ba:Hid (FP s wr wb W t y z A B C cs (l++(Pl.made (n+1) (W.pairs.length+l.length) (.agg c)).2) E):=Q;have v0:wr.cell? ⟨w.heap.size+1,0,none⟩=some (.string ⟨(vK (AL (Pl.made n) (W.pairs.length+l.length) c).1).toArray⟩):=aA r 0;have v1:wr.cell? ⟨w.heap.size+1,1,none⟩=some (.int .i64 (vN (AL (Pl.made n) (W.pairs.length+l.length) c).1)):=aA r 1;have v2:wr.cell? ⟨w.heap.size+1,2,none⟩=some (.string ⟨(vS (AL (Pl.made n) (W.pairs.length+l.length) c).1).toArray⟩):=aA r 2;obtain⟨r0,r1,r2,f0,f1,f2,s1,s2,s3⟩:=FA P;clear Q r;have bb:Hid (bT (Pl.made (n+1) (W.pairs.length+l.length) (.agg c)).1=.agg #[.string ⟨(vK (AL (Pl.made n) (W.pairs.length+l.length) c).1).toArray⟩,.int .i64 (vN (AL (Pl.made n) (W.pairs.length+l.length) c).1),.string ⟨(vS (AL (Pl.made n) (W.pairs.length+l.length) c).1).toArray⟩]):=rfl;clear az O;generalize vK (AL (Pl.made n) (W.pairs.length+l.length) c).1=kk at *;generalize vN (AL (Pl.made n) (W.pairs.length+l.length) c).1=nn at *;generalize vS (AL (Pl.made n) (W.pairs.length+l.length) c).1=ss at *;go_wp2_with fail
   (try simp only [Exit.inBlock,Exit.then])
   refine bodyPost_ret (v:=.agg #[.string ⟨kk.toArray⟩,.int .i64 nn,.string ⟨ss.toArray⟩]) ?_ rfl ?_
   ·rw [aO rfl]
    go_simp
   ·refine⟨by rw [bb.out],E,uI ba (by omega) P _ _ _,?_⟩;intro j H e h1 h2 hb;have hj:=aB hb;rw [(e6 wr w.heap.size _ _ _).block j (aB (G j H e h1 h2 hb)) (by simp;omega)];exact G.out j H e h1 h2 hb
  ·obtain⟨j,rfl⟩:∃j,k=j+1:=⟨k-1,by omega⟩
   have ae:=AJ.keep G.ME _ _ _ HR;obtain⟨b',bc,bd,e',af,_,be,bf,ag,ah⟩:=ae.list;simp only [Value.pointer.injEq,o_,Addr.mk.injEq,and_true] at e';subst e';obtain⟨cd,bw,rfl,R,m⟩:=bf;rw [ag] at be R;obtain⟨u,hu⟩:∃u,bd[j]?=some u:=⟨_,g_ (by omega)⟩
   obtain⟨x,hx⟩:∃x,c[j]?=some x:=⟨_,g_ (by omega)⟩
   obtain⟨g,a,e1,hg,hc⟩:=m j u hu;subst e1;have S:=ah j u x hu hx;obtain⟨bu,rfl⟩:=S.ptr;have bg:Hid (AJ (fun _=>True) n wr (.pointer (some ⟨bu,0,none⟩)) x):=S;have ai:c.drop j=x::c.drop (j+1):=by have hj:=(s_ hx).1;rw [<- (s_ hx).2,List.getElem_cons_drop]
   have aj:Hid (c.drop j=x::c.drop (j+1)):=ai;have I:=gC (Pl.made n) (W.pairs.length+l.length) j c;rw [ai,eU] at I;simp only [a_,c_,z_] at I;have bh:=ac.out;generalize bi:AL (Pl.made n) (W.pairs.length+l.length) (c.drop (j+1))=d at *;have ak:Hid (AL (Pl.made n) (W.pairs.length+l.length) (c.drop (j+1))=d):=bi;have al:W.pairs.length+(l++d.2).length=W.pairs.length+l.length+d.2.length:=by rw [a_];omega
   have bj:=(show Hid _ from aw.out wr (l++d.2) E _ x ad bg (ax x (q_ hx)) (by rw [al];omega))
   have bk:Hid (W.pairs.length+(l++d.2).length=W.pairs.length+l.length+d.2.length):=al;have bl:Hid (d.2.length+(Pl.made n (W.pairs.length+l.length+d.2.length) x).2.length+1<=(AL (Pl.made n) (W.pairs.length+l.length) c).2.length):=I;have ce:(j:Int)<(c.length:Int):=by omega
   have bm:(((j+1:Nat):Int)-1)=(j:Int):=by omega
   rw [bm];clear ae af ah m hu hx S;go_wp2_with fail;refine Calls.mono bj ?_;rintro e f ⟨rfl,T,U,J⟩;rw [bk.out] at U ⊢;generalize am:Pl.made n (W.pairs.length+l.length+d.2.length) x=h at *;have L:Hid (Pl.made n (W.pairs.length+l.length+d.2.length) x=h):=am;clear am;have an:Hid (FP s f wb W t y z A B C cs (l++d.2++h.2) T):=U;have bn:Hid (B4 wr f):=J;have F:Hid (f.heap[w.heap.size+1]?=some (.cells #[AM (vK d.1),.int .i64 (vN d.1),AM (vS d.1)] TV (0,0))):=J _ _ _ (by decide) (by decide) O;have bo:Hid (f.heap[w.heap.size]?=some (.cells #[.string ⟨#[]⟩,.int .i64 0,.string ⟨#[]⟩] TV (0,0))):=J _ _ _ (by decide) (by decide) P;have cf:=aB F;have qC:∀(o:Obj)(k a:Nat),k<f.heap.size->(f.alloc o).cell? ⟨k,a,none⟩=f.cell? ⟨k,a,none⟩:=fun o k a Y=>(r_.alloc n_ o).cell (p:=⟨k,a,none⟩) Y;have v0:f.cell? ⟨w.heap.size+1,0,none⟩=some (.string ⟨(vK d.1).toArray⟩):=aA F 0;have v1:f.cell? ⟨w.heap.size+1,1,none⟩=some (.int .i64 (vN d.1)):=aA F 1;have v2:f.cell? ⟨w.heap.size+1,2,none⟩=some (.string ⟨(vS d.1).toArray⟩):=aA F 2;have bp:Hid (∀o:Obj,Calls prog 174 #[.pointer (some ⟨wb,0,none⟩),.agg #[.string ⟨(vK h.1).toArray⟩,.int .i64 (vN h.1),.string ⟨(vS h.1).toArray⟩],.agg #[.string ⟨(vK d.1).toArray⟩,.int .i64 (vN d.1),.string ⟨(vS d.1).toArray⟩]] (f.alloc o) fun e w'=>e=.returned (bT (.pair (W.pairs.length+(l++d.2++h.2).length)))/\∃ap,FP s w' wb W t y z A B C cs (l++d.2++h.2++[(h.1,d.1)]) ap/\(f.alloc o).heap.size<=w'.heap.size/\(∀k,k<(f.alloc o).heap.size->k≠wb->T.ownBlock≠some k->w'.heap[k]?=(f.alloc o).heap[k]?)):=fun o =>uC s (f.alloc o) wb W t y z A B C cs (l++d.2++h.2) T h.1 d.1 (an.later b_) (by have h1:=bl.out;have h2:=ac.out;simp only [a_];omega);clear U J I bh;unfold bT AM;go_wp2_with fail;refine Calls.mono (bp _) ?_;rintro e w3 ⟨rfl,aq,ar,bq,au⟩;have V:Hid (∀o:Obj,B4 f (f.alloc o)):=fun o=>B4.AA (r_.alloc n_ o);have K:=(FP.TT (an.later b_) au)
   have X:Hid (w3.heap[w.heap.size+1]?=some (.cells #[AM (vK d.1),.int .i64 (vN d.1),AM (vS d.1)] TV (0,0))):=K _ _ _ (by decide) (by decide) (V _ _ _ _ (by decide) (by decide) F);have av:Hid (w3.heap[w.heap.size]?=some (.cells #[.string ⟨#[]⟩,.int .i64 0,.string ⟨#[]⟩] TV (0,0))):=K _ _ _ (by decide) (by decide) (V _ _ _ _ (by decide) (by decide) bo);have br:Hid (B4 w w3):=G.trans (bn.trans ((V _).trans K));have bs:Hid (FP s w3 wb W t y z A B C cs (l++d.2++h.2++[(h.1,d.1)]) aq):=ar;obtain⟨r0,r1,r2,f0,f1,f2,s1,s2,s3⟩:=FA X;clear ar bq au K v0 v1 v2 qC;simp only [aggP];go_wp2_with fail;refine⟨⟨j,aq,by omega,rfl,?_,?_,?_,?_⟩,by simp [intOf]⟩
   ·show FP _ _ _ _ _ _ _ _ _ _ _ _ _;rw [aj.out,eU,ak.out,L.out];have:=uI bs (show s.heap.size<=w.heap.size+1 from by omega) X (.string ⟨#[112,97,105,114]⟩) (.int .i64 ((W.pairs.length:Int)+((l.length:Int)+((d.2.length:Int)+(h.2.length:Int))))) (.string ⟨#[]⟩);simpa [List.append_assoc] using this
   ·show _=_;rw [aj.out,eU,ak.out,L.out];refine(aD (aD (aD X 0 _) 1 _) 2 _).trans ?_;have e:((W.pairs.length:Int)+((l.length:Int)+((d.2.length:Int)+(h.2.length:Int))))=((W.pairs.length+l.length+d.2.length+h.2.length:Nat):Int):=by omega
    rw [e];rfl
   ·exact((e6 w3 (w.heap.size+1) _ _ _).block w.heap.size (aB av) (by simp)).trans av
   ·intro q H e h1 h2 hb;have hq:=aB hb;have h3:=br.out q H e h1 h2 hb;exact((e6 w3 (w.heap.size+1) _ _ _).block q (aB h3) (by simp;omega)).trans h3
theorem lL(b:World)(wb:Nat)(W:PW)(c d e f g:Value)(h cs:List Value):∀n,LK b wb W c d e f g h cs n
 | 0=>fun w l a j t _ i=>i.elim
 | n+1=>fun w l a j t m i o q=>by
  by_cases p:∃k,t=.agg k
  ·obtain⟨k,rfl⟩:=p;exact lJ b wb W c d e f g h cs n (lL b wb W c d e f g h cs n) w l a j k m i o q
  ·exact lK b wb W c d e f g h cs n w l a j t m i o p
theorem mE{ok:Nat->Prop}:∀(n m:Nat)(v:Value)(t:Tr),AJ ok n w v t->cL n t->cL m t
 | 0,_,_,_,h,_=>h.elim
 | _+1,0,_,_,_,_=>trivial
 | n+1,m+1,v,t,h,a=>by
  cases t with
  | agg g =>intro x c;obtain⟨b,_,_,d,e,_,_,j,k,_⟩:=h;obtain⟨i,f⟩:=List.mem_iff_getElem?.1 c;have l:e.length=g.length:=j.1.trans (Nat.mul_one _);have o:=(s_ f).1;exact mE n m _ x (k i e[i] x (g_ (by omega)) f) (a x c)
  | lit x=>cases x<;>first | trivial | exact a
  | _=>trivial
def C6(lo hi:Nat)(w w':World):Prop:=∀(k:Nat)(cur:Array Value)(e:TypeId),RH e->(e=G3->k<lo\/hi<=k)->w.heap[k]?=some (.cells cur e (0,0))->w'.heap[k]?=some (.cells cur e (0,0))
theorem C6.refl(lo hi:Nat)(w:World):C6 lo hi w w:=fun _ _ _ _ _ h=>h
theorem C6.trans{c:World}(h:C6 lo hi a b)(k:C6 lo hi b c):C6 lo hi a c:=fun i d e f g j=>k i d e f g (h i d e f g j)
theorem C6.mono{lo' hi':Nat}(h:C6 lo hi a b)(j:lo'<=lo)(k:hi<=hi'):C6 lo' hi' a b:=fun i c e d f g=>h i c e d (fun x=>(f x).imp (fun y=>by omega) (fun y=>by omega)) g
theorem C6.x(h:C6 lo hi a b):E1 lo hi a b:=fun i c e d f g=>h i c e d (fun x=>f (.inl x)) g
theorem C6.row{v:Value}{xs:List Value}{T:TypeId}(f:C6 lo hi w w')(i:RH T)(c:T≠G3)(h:w.ownsRow 0 T 1 v n xs):w'.ownsRow 0 T 1 v n xs:=by
 refine⟨h.1,?_⟩;rcases h.2 with c | ⟨g,d,a,rfl,j,k,b⟩
 ·exact .inl c
 ·exact .inr ⟨g,d,a,rfl,j,f g a T i (fun e=>absurd e c) k,b⟩
theorem B4.keepS(h:B4 w w'):C6 lo hi w w':=fun k a e hi _ b=>h k a e (by rintro rfl;rcases hi with h | h | h | h | h | h<;>exact absurd h (by decide)) (by rintro rfl;rcases hi with h | h | h | h | h | h<;>exact absurd h (by decide)) b
def VF(X:World->Prop)(w:World)(wb:Nat)(W:PW)(pv qv cv lv gv:Value)(qs cs:List Value)(l:List (PV×PV))(pv':Value):Prop:=∃w0,X w0/\FP w0 w wb W pv qv cv lv gv qs cs l pv'
def QT(w:World)(b:Nat)(x:PV):World:=((w.setCell ⟨b,5,none⟩ (AM (vK x))).setCell ⟨b,6,none⟩ (.int .i64 (vN x))).setCell ⟨b,7,none⟩ (AM (vS x))
def Snp(X:World->Prop)(lo0 hi0 wb:Nat)(W:PW)(pv qv cv lv gv:Value)(qs cs:List Value):Prop:=∀(w:World) (l:List (PV×PV)) (pv':Value) (b:Nat) (nm:AE) (dv kv nv c1 c2:Value) (x:PV),VF X w wb W pv qv cv lv gv qs cs l pv'->lo0<=b->b<hi0->w.heap[b]?=some (.cells #[AM (FW .const),AM nm,dv,kv,nv,AM [],c1,c2] G3 (0,0))->VF X (QT w b x) wb W pv qv cv lv gv qs cs l pv'
def ED(X:World->Prop)(w:World)(wb:Nat)(W:PW)(pv qv cv lv gv:Value)(qs cs:List Value)(l:List (PV×PV))(n lo hi:Nat)(v:Value)(r:PF×List (PV×PV))(e:Ending)(w':World):Prop :=e=.returned (.tuple #[])/\∃pv'',VF X w' wb W pv qv cv lv gv qs cs (l++r.2) pv''/\AX true n w' lo hi v r.1/\C6 lo hi w w'
def QV(X:World->Prop)(lo0 hi0 wb:Nat)(W:PW)(pv qv cv lv gv:Value)(qs cs:List Value)(n:Nat):Prop :=
 ∀(w:World) (l:List (PV×PV)) (pv':Value) (lo hi:Nat) (v:Value) (f:PF),VF X w wb W pv qv cv lv gv qs cs l pv'->AX false n w lo hi v f->lo0<=lo->hi<=hi0->W.pairs.length+l.length+(Pl.settle f (W.pairs.length+l.length)).2.length<=1000000000 ->
  Calls prog 83 #[.pointer (some ⟨wb,0,none⟩),v] w fun e w'=>ED X w wb W pv qv cv lv gv qs cs l n lo hi v (Pl.settle f (W.pairs.length+l.length)) e w'
theorem FP.IF{W:PW}{l:List (PV×PV)}(h:FP w0 w wb W pv qv cv lv gv qs cs l pv'){b:Nat}(d:w.heap[b]?=some (.cells c G3 (0,0)))(a:w0.heap.size<=b)(o:Nat)(x:Value):FP w0 (w.setCell ⟨b,o,none⟩ x) wb W pv qv cv lv gv qs cs l pv' :=
 h.grown (aE w b o x) (fun k f=>by
  obtain rfl:=i_ f;refine⟨a,fun e=>?_⟩;obtain⟨i,g⟩:=aN h.row _ e
  exact absurd (aK d g).2 (by decide))
theorem C6.set{b:Nat}(i:lo<=b)(j:b<hi)(f:w.heap[b]?=some (.cells c G3 (0,0)))(o:Nat)(x:Value):C6 lo hi w (w.setCell ⟨b,o,none⟩ x):=fun k g e _ h d=>by
 by_cases a:k=b
 ·subst a;obtain⟨_,rfl⟩:=aK d f;have:=h rfl;omega
 ·rw [Below.heap_setCell _ _ _ _ (fun e=>a (by simpa using e))];exact d
theorem gM:∀(a:List PF)(B k:Nat)(x:PF),a[k]?=some x->(Pl.AK a B).1[k]?=some (Pl.settle x (B+(Pl.AK (a.take k) B).2.length)).1/\(Pl.AK (a.take (k+1)) B).2=(Pl.AK (a.take k) B).2++(Pl.settle x (B+(Pl.AK (a.take k) B).2.length)).2
 | [],_,_,_,h=>by simp at h
 | y::a,B,0,x,h=>by simp only [List.getElem?_cons_zero,o_] at h;subst h;simp [Pl.BO,Pl.BV]
 | y::a,B,k+1,x,h=>by rw [List.getElem?_cons_succ] at h;obtain⟨b,c⟩:=gM a (B+(Pl.settle y B).2.length) k x h;simp only [List.take_succ_cons,Pl.BO,List.getElem?_cons_succ,a_];rw [<- Nat.add_assoc,c];exact⟨b,by simp⟩
theorem kQ:∀(a:List PF)(B k:Nat),(Pl.AK (a.take k) B).2.length<=(Pl.AK a B).2.length
 | [],_,_=>by simp
 | y::a,B,0=>by simp [Pl.BV]
 | y::a,B,k+1=>by have:=kQ a (B+(Pl.settle y B).2.length) k;simp only [List.take_succ_cons,Pl.BO,a_];omega
structure I4(X:World->Prop)(w wr:World)(wb:Nat)(W:PW)(pv qv cv lv gv:Value)(qs cs:List Value)(l:List (PV×PV))(n lo b:Nat)(iv:List (Nat×Nat))(us:List Value)(ks:List PF)(j:Nat)(pj:Value):Prop where
 prj:VF X wr wb W pv qv cv lv gv qs cs (l++(Pl.AK (ks.take j) (W.pairs.length+l.length)).2) pj
 keep:C6 lo b w wr
 did:∀(i:Nat)(p:Nat×Nat)(u:Value)(x:PF),i<j->iv[i]?=some p->us[i]?=some u->(Pl.AK ks (W.pairs.length+l.length)).1[i]?=some x->AX true n wr p.1 p.2 u x
 todo:∀(i:Nat)(p:Nat×Nat)(u:Value)(x:PF),j<=i->iv[i]?=some p->us[i]?=some u->ks[i]?=some x->AX false n wr p.1 p.2 u x
theorem I4.next{X:World->Prop}{wr w2:World}{W:PW}{l:List (PV×PV)}{b:Nat}{e:List (Nat×Nat)}{us:List Value}{a:List PF}{j:Nat}{pj:Value}(h:I4 X w wr wb W pv qv cv lv gv qs cs l n lo b e us a j pj)
  (m:∀(i:Nat)(p:Nat×Nat),e[i]?=some p->lo<=p.1/\p.2<=b) (c:∀(i k:Nat)(p q:Nat×Nat),i<k->e[i]?=some p->e[k]?=some q->p.2<=q.1) {p:Nat×Nat} {u:Value} {x:PF} (hp:e[j]?=some p) (z:us[j]?=some u) (A:a[j]?=some x) {pj2:Value}
  (s:VF X w2 wb W pv qv cv lv gv qs cs (l++(Pl.AK (a.take j) (W.pairs.length+l.length)).2++(Pl.settle x (W.pairs.length+(l++(Pl.AK (a.take j) (W.pairs.length+l.length)).2).length)).2) pj2)
  (t:AX true n w2 p.1 p.2 u (Pl.settle x (W.pairs.length+(l++(Pl.AK (a.take j) (W.pairs.length+l.length)).2).length)).1) (o:C6 p.1 p.2 wr w2):I4 X w w2 wb W pv qv cv lv gv qs cs l n lo b e us a (j+1) pj2:=by
 obtain⟨B,C⟩:=gM a (W.pairs.length+l.length) j x A;have D:W.pairs.length+(l++(Pl.AK (a.take j) (W.pairs.length+l.length)).2).length=W.pairs.length+l.length+(Pl.AK (a.take j) (W.pairs.length+l.length)).2.length:=by rw [a_,Nat.add_assoc]
 rw [D] at s t;obtain⟨E,F⟩:=m j p hp;refine⟨by rw [C,<-List.append_assoc];exact s,h.keep.trans (o.mono E F),fun i q v y G d f g=>?_,fun i q v y G d f g=>?_⟩
 ·by_cases r:i=j
  ·subst r;rw [hp] at d;obtain rfl:=i_ d;rw [z] at f;obtain rfl:=i_ f;rw [B] at g;obtain rfl:=i_ g;exact t
  ·exact AX.keep o.x n _ _ _ _ (.inl (c i j q p (by omega) d hp)) (h.did i q v y (by omega) d f g)
 ·exact AX.keep o.x n _ _ _ _ (.inr (c j i p q (by omega) hp d)) (h.todo i q v y (by omega) d f g)
theorem kB(X:World->Prop)(M N wb:Nat)(W:PW)(C D E F G:Value)(H cs:List Value)(n:Nat)(ih:QV X M N wb W C D E F G H cs n)(w:World)(l:List (PV×PV))(O:Value)(lo hi:Nat)(v:Value)(k:FK)(nm:AE)(d:Tr)(px:PV)(a:List PF)(ns:List AE)(hk:k≠.const)(hJ:VF X w wb W C D E F G H cs l O)(hU:AX false (n+1) w lo hi v (.mk k nm d px a ns))(T:M<=lo)(ar:hi<=N)(hz:W.pairs.length+l.length+(Pl.settle (.mk k nm d px a ns) (W.pairs.length+l.length)).2.length<=1000000000) :Calls prog 83 #[.pointer (some ⟨wb,0,none⟩),v] w fun e w'=>ED X w wb W C D E F G H cs l (n+1) lo hi v (Pl.settle (.mk k nm d px a ns) (W.pairs.length+l.length)) e w':=by
 rw [Pl.BC _ _ _ _ _ _ _ hk] at hz ⊢;obtain⟨b,dv,kv,nv,c0,c1,c2,y,rfl,ae,af,hb,U,c,⟨z,A,P,Q,o⟩,q,V,f,ag,Y,Z,aa⟩:=hU;have ck:w.cell? ⟨b,0,none⟩=some (.string ⟨(FW k).toArray⟩):=aA hb 0;have ah:(FW k==[99,111,110,115,116])=false:=by cases k<;>first | rfl | exact absurd rfl hk
 have c3:w.cell? ⟨b,3,none⟩=some kv:=aA hb 3;have HB:=h_ hb;have B:Hid (∀(i:Nat)(p:Nat×Nat),A[i]?=some p->lo<=p.1/\p.2<=b):=fun i p m=>by have R:=(s_ m).1;obtain⟨q1,q2,_⟩:=Q i p y[i] a[i] m (g_ (by omega)) (g_ (by omega));exact⟨q1,q2⟩
 have ab:=h_ o;have I:=h_ c;have ai:Hid (I4 X w w wb W C D E F G H cs l n lo b A y a 0 O):=show I4 _ _ _ _ _ _ _ _ _ _ _ _ _ _ _ _ _ _ _ _ _ from ⟨by simp only [List.take_zero,Pl.BV,List.append_nil];exact hJ,C6.refl _ _ _,fun i p u x hi=>by omega,fun i p u x _ m J K=>(Q i p u x m J K).2.2⟩;have ac:Hid (∀(wr:World)(L:Value),I4 X w wr wb W C D E F G H cs l n lo b A y a a.length L->ED X w wb W C D E F G H cs l (n+1) lo hi (.pointer (some ⟨b,0,none⟩)) (.mk k nm d px (Pl.AK a (W.pairs.length+l.length)).1 ns,(Pl.AK a (W.pairs.length+l.length)).2) (.returned (.tuple #[])) wr):=fun wr L h=>by have r:=Pl.G9 a (W.pairs.length+l.length);have aj:C6 lo hi w wr:=h.keep.mono n_ (by omega);refine⟨rfl,L,by have:=h.prj;rw [List.take_length] at this;exact this,⟨b,dv,kv,nv,c0,c1,c2,y,rfl,ae,af,h.keep b _ _ (.inr (.inr (.inl rfl))) (fun _=>.inr n_) HB,fun e=>absurd e hk,by rw [r];exact h.keep.row (.inr (.inr (.inr (.inl rfl)))) (by decide) c,⟨by rw [r];exact z,A,by rw [r];exact P,fun i p u x m J K=>?_,o⟩,h.keep.row (.inr (.inr (.inr (.inr (.inl rfl))))) (by decide) q,fun e=>absurd e hk,by rw [r];exact f,by rw [r];exact ag,Y,Z,aa⟩,aj⟩;have R:=(s_ m).1;obtain⟨q1,q2⟩:=B.out i p m;exact⟨q1,q2,h.did i p u x (by omega) m J K⟩
 have ak:=h_ ih;have HZ:Hid (W.pairs.length+l.length+(Pl.AK a (W.pairs.length+l.length)).2.length<=1000000000/\(M<=lo/\b<=N)/\y.length=a.length/\A.length=a.length):=⟨hz,⟨T,by omega⟩,z,P⟩
 obtain⟨ao,al,rfl,ad,_⟩:=bC c;rw [z] at c3 ad I HB;generalize am:FW k=kk at ck ah;clear am hJ hb U c Q o q V f Z aa hz ih z P Y;go_enter func83,ntmps83;go_wp2_with fail
 go_loopw [5] (fun i wr=>∃(j:Nat)(L:Value),j<=a.length/\i=.int .i64 j/\Hid (I4 X w wr wb W C D E F G H cs l n lo b A y a j L)) (fun i _=>a.length-(intOf i).toNat)
 case atStart=>exact⟨0,O,Nat.zero_le _,rfl,ai⟩
 case round =>
  obtain⟨j,L,hj,rfl,S⟩:=hrel;have aw:wr.cell? ⟨b,3,none⟩=some (.slice ao a.length al):=aA (S.keep b _ _ (.inr (.inr (.inl rfl))) (fun _=>.inr n_) HB) 3;by_cases R:j<a.length
  ·obtain⟨_,_,an,ap⟩:=HZ.out;obtain⟨u,J⟩:∃u,y[j]?=some u:=⟨y[j],g_ (by omega)⟩
   obtain⟨x,K⟩:∃x,a[j]?=some x:=⟨a[j],g_ R⟩
   obtain⟨p,m⟩:∃p,A[j]?=some p:=⟨A[j],g_ (by omega)⟩
   obtain⟨ax,au,e,_,s⟩:=bC (S.keep.row (.inr (.inr (.inr (.inl rfl)))) (by decide) I);obtain⟨g,ay,rfl,hg,hc⟩:=s j u J;simp only [Value.slice.injEq] at e;obtain⟨rfl,_,_⟩:=e;have hR:=S.todo j p u x n_ m J K;obtain⟨e1,e2⟩:=gM a (W.pairs.length+l.length) j x K
   have t:Hid (Calls prog 83 #[.pointer (some ⟨wb,0,none⟩),u] wr fun e w'=>ED X wr wb W C D E F G H cs (l++(Pl.AK (a.take j) (W.pairs.length+l.length)).2) n p.1 p.2 u (Pl.settle x (W.pairs.length+(l++(Pl.AK (a.take j) (W.pairs.length+l.length)).2).length)) e w') :=
    ak.out wr _ L p.1 p.2 u x S.prj hR (t_ HZ.2.1.1 (B j p m).1) (t_ (B j p m).2 HZ.2.1.2) (by
     have h1:=HZ.1;have h2:=kQ a (W.pairs.length+l.length) (j+1);rw [e2,a_] at h2;rw [show W.pairs.length+(l++(Pl.AK (a.take j) (W.pairs.length+l.length)).2).length=W.pairs.length+l.length+(Pl.AK (a.take j) (W.pairs.length+l.length)).2.length from by rw [a_,Nat.add_assoc]]
     omega)
   have HX:Hid (A[j]?=some p/\y[j]?=some u/\a[j]?=some x):=⟨m,J,K⟩
   have av:(j:Int)<(a.length:Int):=by omega
   obtain⟨bu,rfl⟩:=hR.ptr;clear hR e1 e2 m J K s an ap;go_wp2_with fail;refine Calls.mono t ?_;rintro e w2 ⟨rfl,aq,k1,k2,k3⟩;have HN:=h_ (S.next B ab HX.1 HX.2.1 HX.2.2 k1 k2 k3);clear k1 k2 k3 t;go_wp2_with fail
   go_roundw
   case rel=>exact⟨j+1,aq,by omega,by go_num,HN⟩
   case measure=>simp [intOf];omega
  ·obtain rfl:j=a.length:=by omega
   go_wp2_with fail
   go_end0
   exact ac.out wr L S
theorem tW{X:World->Prop}{lo0 hi0:Nat}{w2:World}{W:PW}{l:List (PV×PV)}{b:Nat}{nm:AE}{d:Tr}{ns:List AE}{dv kv nv c0 c1 c2:Value}(i:Snp X lo0 hi0 wb W pv qv cv lv gv qs cs)(t:lo0<=lo)(u:hi<=hi0)(a:lo<=b)(c:b<hi)(j:c0=AM [])(A:w.heap[b]?=some (.cells #[AM (FW .const),AM nm,dv,kv,nv,c0,c1,c2] G3 (0,0)))(f:w.ownsRow 0 LN 1 kv 0 [])(e:w.ownsRow 0 TS 1 nv ns.length (ns.map AM))(g:∃m,m<=1000/\AJ (fun _=>True) m w dv d/\cL m d/\uG d)(k:ns.length<=1000)(o:fI lo hi kv)(p:fI lo hi nv){r:PV×List (PV×PV)}{pj:Value}(B:VF X w2 wb W pv qv cv lv gv qs cs (l++r.2) pj)(v:B4 w w2) :ED X w wb W pv qv cv lv gv qs cs l (n+1) lo hi (.pointer (some ⟨b,0,none⟩)) (.mk .const nm d r.1 [] ns,r.2) (.returned (.tuple #[])) (QT w2 b r.1)/\(QT w2 b r.1).cell? ⟨b,3,none⟩=some kv:=by have q:w2.heap[b]?=some (.cells #[AM (FW .const),AM nm,dv,kv,nv,c0,c1,c2] G3 (0,0)):=v b _ _ (by decide) (by decide) A;have x:=aD q 5 (AM (vK r.1));have y:=aD x 6 (.int .i64 (vN r.1));have z:=aD y 7 (AM (vS r.1));have h:C6 lo hi w (QT w2 b r.1):=((v.keepS.trans (C6.set a c q 5 _)).trans (C6.set a c x 6 _)).trans (C6.set a c y 7 _);refine⟨⟨rfl,pj,i w2 _ pj b nm dv kv nv c1 c2 r.1 B (by omega) (by omega) (by rw [<- j];exact q),⟨b,dv,kv,nv,_,_,_,[],rfl,a,c,z,fun _=>rfl,h.row (.inr (.inr (.inr (.inl rfl)))) (by decide) f,CA.nil _ _ _,h.row (.inr (.inr (.inr (.inr (.inl rfl))))) (by decide) e,fun _=>g.elim fun m s=>⟨m,s.1,AJ.keep h.x.ME _ _ _ s.2.1,s.2.2⟩,rfl,by simp,k,o,p⟩,h⟩,?_⟩;exact aA z 3
theorem iX(X:World->Prop)(Q R wb:Nat)(W:PW)(y z A B C:Value)(D cs:List Value)(ac:Snp X Q R wb W y z A B C D cs)(n:Nat)(w:World)(l:List (PV×PV))(L:Value)(lo hi:Nat)(v:Value)(nm:AE)(d:Tr)(px:PV)(ks:List PF)(ns:List AE)(hJ:VF X w wb W y z A B C D cs l L)(hU:AX false (n+1) w lo hi v (.mk .const nm d px ks ns))(S:Q<=lo)(T:hi<=R)(hz:W.pairs.length+l.length+(Pl.settle (.mk .const nm d px ks ns) (W.pairs.length+l.length)).2.length<=1000000000) :Calls prog 83 #[.pointer (some ⟨wb,0,none⟩),v] w fun e w'=>ED X w wb W y z A B C D cs l (n+1) lo hi v (Pl.settle (.mk .const nm d px ks ns) (W.pairs.length+l.length)) e w':=by
 rw [Pl.CI] at hz ⊢;obtain⟨b,dv,kv,nv,c0,c1,c2,us,rfl,ad,ae,U,I,p,⟨V,_⟩,q,r,k,af,Y,f,Z⟩:=hU;obtain rfl:ks=[]:=e_ k;obtain rfl:us=[]:=e_ V;have ck:w.cell? ⟨b,0,none⟩=some (.string ⟨#[99,111,110,115,116]⟩):=aA U 0;have an:w.cell? ⟨b,2,none⟩=some dv:=aA U 2;have o:Hid (∀(c:World)(P:Value),VF X c wb W y z A B C D cs (l++(Pl.made 1000 (W.pairs.length+l.length) (Pl.quoted d)).2) P->B4 w c->ED X w wb W y z A B C D cs l (n+1) lo hi (.pointer (some ⟨b,0,none⟩)) (.mk .const nm d (Pl.made 1000 (W.pairs.length+l.length) (Pl.quoted d)).1 [] ns,(Pl.made 1000 (W.pairs.length+l.length) (Pl.quoted d)).2) (.returned (.tuple #[])) (QT c b (Pl.made 1000 (W.pairs.length+l.length) (Pl.quoted d)).1)/\(QT c b (Pl.made 1000 (W.pairs.length+l.length) (Pl.quoted d)).1).cell? ⟨b,3,none⟩=some kv):=fun c P h1 h2=>tW ac S T ad ae I.1 U p q (r rfl) Y f Z h1 h2;obtain⟨m,hm,J,E,hQ⟩:=r rfl;have HB:=h_ U;have HJ:=h_ hJ;have HZ:=h_ hz;obtain⟨ao,F,rfl,aj,_⟩:=bC p;simp only [z_] at o HB;unfold QT AM at o;clear hJ hz U I p q r k af Y f Z V;by_cases G:∃ts,d=.agg ts
 ·obtain⟨ts,rfl⟩:=G
  obtain⟨a,x,rfl⟩:∃a x,ts=[a,x]:=by
   match ts,hQ with
   | [a,x],_=>exact⟨a,x,rfl⟩
  obtain⟨m',rfl⟩:∃m',m=m'+1:=by
   cases m with
   | zero=>exact J.elim
   | succ m'=>exact⟨m',rfl⟩
  obtain⟨bd,ak,vs,rfl,ag,H,ah,hS,aa,hA⟩:=J.list
  obtain⟨y0,K,rfl⟩:∃y0 K,vs=[y0,K]:=by
   match vs,aa with
   | [y0,K],_=>exact⟨y0,K,rfl⟩
  obtain⟨g,ap,al,rfl,M,hg,z0,zs⟩:=hS.cell0;have z1:=zs 0 K rfl;simp only [Nat.zero_add,c_,z_] at z1 ah M;have f:=hA 1 K x rfl rfl;have N:Hid (AJ (fun _=>True) 1000 w K x):=AJ.up _ _ _ _ (by omega) f;have O:Hid (cL 1000 x):=mE m' 1000 K x f (E x (by simp));have am:w.cell? ⟨bd,0,none⟩=some (.string ⟨#[108,105,115,116]⟩):=H;obtain⟨aq,rfl⟩:=f.ptr;clear J E hQ hA hS aa zs f H;go_enter func83,ntmps83;go_wp2_with fail;obtain⟨w0,s,t⟩:=HJ.out;refine(lL w0 wb W y z A B C D cs 1000 w l L _ _ t N O HZ).mono ?_;rintro e c ⟨rfl,P,u,h⟩;have j:c.heap[b]?=some (.cells #[AM (FW .const),AM nm,.pointer (some ⟨bd,0,none⟩),.slice ao 0 F,nv,c0,c1,c2] G3 (0,0)):=h b _ _ (by decide) (by decide) HB;have HP:Hid _:=o.out c P ⟨w0,s,u⟩ h;have x5:c.cell? ⟨b,5,none⟩=some c0:=aA j 5;have x6:c.cell? ⟨b,6,none⟩=some c1:=aA j 6;have x7:c.cell? ⟨b,7,none⟩=some c2:=aA j 7;have f5:c.frozen? ⟨b,5,none⟩=false:=aF j 5;have f6:c.frozen? ⟨b,6,none⟩=false:=aF j 6;have f7:c.frozen? ⟨b,7,none⟩=false:=aF j 7;clear u h j t s;unfold bT AM;go_wp2_with fail
  go_loopw [5] (fun i wr=>i=.int .i64 0/\wr.cell? ⟨b,3,none⟩=some (.slice ao 0 F)/\Hid (ED X w wb W y z A B C D cs l (n+1) lo hi (.pointer (some ⟨b,0,none⟩)) (.mk .const nm (.agg [a,x]) (Pl.made 1000 (W.pairs.length+l.length) (Pl.quoted (.agg [a,x]))).1 [] ns,(Pl.made 1000 (W.pairs.length+l.length) (Pl.quoted (.agg [a,x]))).2) (.returned (.tuple #[])) wr)) (fun _ _=>0)
  case atStart=>exact⟨rfl,HP.2,HP.1⟩
  case round =>
   obtain⟨rfl,ai,HE⟩:=hrel;go_wp2_with fail
   go_end0
   exact HE
 ·have hq:Pl.quoted d=d:=by
   unfold Pl.quoted;split
   ·exact absurd ⟨_,rfl⟩ G
   ·rfl
  obtain⟨kk,ab,ar⟩:=J.KQ G;have N:Hid (AJ (fun _=>True) 1000 w dv (Pl.quoted d)):=show AJ _ _ _ _ _ from by rw [hq];exact AJ.up _ _ _ _ hm J
  have O:Hid (cL 1000 (Pl.quoted d)):=show cL _ _ from by rw [hq];exact mE m 1000 dv d J E
  obtain⟨bd,rfl,ag,H,_⟩:=J.EB;rw [ab] at H;clear J E hQ G hq ab;go_enter func83,ntmps83;go_wp2_with fail;obtain⟨w0,s,t⟩:=HJ.out;refine(lL w0 wb W y z A B C D cs 1000 w l L _ _ t N O HZ).mono ?_;rintro e c ⟨rfl,P,u,h⟩;have j:c.heap[b]?=some (.cells #[AM (FW .const),AM nm,.pointer (some ⟨bd,0,none⟩),.slice ao 0 F,nv,c0,c1,c2] G3 (0,0)):=h b _ _ (by decide) (by decide) HB;have HP:Hid _:=o.out c P ⟨w0,s,u⟩ h;have x5:c.cell? ⟨b,5,none⟩=some c0:=aA j 5;have x6:c.cell? ⟨b,6,none⟩=some c1:=aA j 6;have x7:c.cell? ⟨b,7,none⟩=some c2:=aA j 7;have f5:c.frozen? ⟨b,5,none⟩=false:=aF j 5;have f6:c.frozen? ⟨b,6,none⟩=false:=aF j 6;have f7:c.frozen? ⟨b,7,none⟩=false:=aF j 7;clear u h j t s;unfold bT AM;go_wp2_with fail
  go_loopw [5] (fun i wr=>i=.int .i64 0/\wr.cell? ⟨b,3,none⟩=some (.slice ao 0 F)/\Hid (ED X w wb W y z A B C D cs l (n+1) lo hi (.pointer (some ⟨b,0,none⟩)) (.mk .const nm d (Pl.made 1000 (W.pairs.length+l.length) (Pl.quoted d)).1 [] ns,(Pl.made 1000 (W.pairs.length+l.length) (Pl.quoted d)).2) (.returned (.tuple #[])) wr)) (fun _ _=>0)
  case atStart=>exact⟨rfl,HP.2,HP.1⟩
  case round =>
   obtain⟨rfl,ai,HE⟩:=hrel;go_wp2_with fail
   go_end0
   exact HE
theorem mS(X:World->Prop)(a b wb:Nat)(W:PW)(c e g i j:Value)(m cs:List Value)(o:Snp X a b wb W c e g i j m cs):∀n,QV X a b wb W c e g i j m cs n
 | 0=>fun _ _ _ _ _ _ _ _ h=>h.elim
 | n+1=>fun w l p t u v f x r y q s=>by
  match f,r,s with
  | .mk k z d A B C,r,s =>
   by_cases D:k=.const
   ·subst D;exact iX X a b wb W c e g i j m cs o n w l p t u v z d A B C x r y q s
   ·exact kB X a b wb W c e g i j m cs n (mS X a b wb W c e g i j m cs o n) w l p t u v k z d A B C D x r y q s
theorem WR(f:World)(c wb:Nat)(W:PW)(g h i j k:Value)(m cs:List Value):Snp (fun x=>x=f) f.heap.size c wb W g h i j k m cs:=fun w l n b o p q r s t x d a _ e=>by obtain⟨_,rfl,d⟩:=d;exact⟨_,rfl,((d.IF e a 5 _).IF (aD e 5 _) a 6 _).IF (aD (aD e 5 _) 6 _) a 7 _⟩
def NG(w0:World)(wb:Nat)(M:Nat->Prop)(W:PW)(f:PF)(e:Ending)(w':World):Prop :=∃xb M',e=.returned (.pointer (some ⟨xb,0,none⟩))/\RW w' wb M' (Pl.AR W f)/\RS M' w' xb (Pl.AV W f)/\Stp M w0 M' w'/\w0.heap.size<=xb
theorem nV(d:w.heap[wb]?=some (.cells c MG (0,0)))(o:Nat)(x:Value):E1 lo hi w (w.setCell ⟨wb,o,none⟩ x):=fun k f e hi _ b=>by
 by_cases a:k=wb
 ·subst a;obtain⟨_,rfl⟩:=aK b d;rcases hi with h | h | h | h | h | h<;>exact absurd h (by decide)
 ·rw [Below.heap_setCell _ _ _ _ (fun e=>a (by simpa using e))];exact b
theorem tG(h:Below w0.heap.size w0 w){T:TypeId}(b:w0.heap[wb]?=some (.cells c T (0,0)))(o:Nat)(x:Value):Below (w0.setCell ⟨wb,o,none⟩ x).heap.size (w0.setCell ⟨wb,o,none⟩ x) (w.setCell ⟨wb,o,none⟩ x):=by
 have f:(w0.setCell ⟨wb,o,none⟩ x).heap.size=w0.heap.size:=by simp [World.setCell]
 refine⟨h.os,h.tape,h.output,by simpa [World.setCell] using h.size,fun k d=>?_⟩;rw [f] at d;by_cases a:k=wb
 ·subst a;rw [aD b o x,aD ((h.block k (aB b)).trans b) o x]
 ·rw [Below.heap_setCell _ _ _ _ (fun e=>a (by simpa using e)),Below.heap_setCell _ _ _ _ (fun e=>a (by simpa using e))];exact h.block k d
theorem xP(a w:World)(wb:Nat)(M:Nat->Prop)(W:PW)(f:PF)(b m:Nat)(N:RW a wb M W)(A:Below a.heap.size a w)(G:AX false m w a.heap.size w.heap.size (.pointer (some ⟨b,0,none⟩)) f)(H:W.pairs.length+(Pl.settle f W.pairs.length).2.length<=1000000000) :Calls prog 51 #[.pointer (some ⟨wb,0,none⟩),.pointer (some ⟨b,0,none⟩)] w fun e B=>NG a wb M W f e B:=by
 obtain⟨s,i,j,k,l,y,z,rfl,q⟩:=N;have h:=q.blk;have d:=(A.block wb (aB h)).trans h;have U:w.cell? ⟨wb,5,none⟩=some (AM W.out):=aA d 5;have V:w.frozen? ⟨wb,5,none⟩=false:=aF d 5;obtain⟨n,p⟩:=q.MP [] (by simp);have C:(a.setCell ⟨wb,5,none⟩ (AM [])).heap.size=a.heap.size:=by simp [World.setCell]
 have t:=FP.start n (tG A h 5 (AM []));have u:AX false m (w.setCell ⟨wb,5,none⟩ (AM [])) a.heap.size w.heap.size (.pointer (some ⟨b,0,none⟩)) f:=AX.keep (nV (lo:=0) (hi:=0) d 5 _) m _ _ _ _ (.inr (Nat.zero_le _)) G;have I:Hid (Calls prog 83 #[.pointer (some ⟨wb,0,none⟩),.pointer (some ⟨b,0,none⟩)] (w.setCell ⟨wb,5,none⟩ (.string ⟨#[]⟩)) fun e B=>ED (fun x=>x=a.setCell ⟨wb,5,none⟩ (AM [])) (w.setCell ⟨wb,5,none⟩ (AM [])) wb {W with out:=[]} s i j k l y z [] m a.heap.size w.heap.size (.pointer (some ⟨b,0,none⟩)) (Pl.settle f (W.pairs.length+0)) e B) :=mS _ _ w.heap.size wb {W with out:=[]} s i j k l y z (WR (a.setCell ⟨wb,5,none⟩ (AM [])) _ _ _ _ _ _ _ _ _ _) m _ [] s a.heap.size w.heap.size _ f ⟨_,rfl,t⟩ u (by omega) n_ H;have D:=h_ p
 have v:Hid (∀(g:World)(c:Value)(o:Obj),FP (a.setCell ⟨wb,5,none⟩ (AM [])) g wb {W with out:=[]} s i j k l y z ([]++(Pl.settle f (W.pairs.length+0)).2) c->AX true m g a.heap.size w.heap.size (.pointer (some ⟨b,0,none⟩)) (Pl.settle f (W.pairs.length+0)).1->o=.cells #[.pointer (some ⟨b,0,none⟩),.slice none 0 0,AM [],.int .i64 0,AM [],.pointer none] JL (0,0)->NG a wb (CQ wb [s,i,j,k,l]) W f (.returned (.pointer (some ⟨g.heap.size,0,none⟩))) (g.alloc o)):=fun g c o O P Q=>by
  obtain⟨R,J⟩:=O.done;have r:Below g.heap.size g (g.alloc o):=b_;have E:RW g wb (CQ wb [c,i,j,k,l]) (Pl.AR W f):=⟨c,i,j,k,l,y,z,rfl,R⟩
  have S:=J.size;refine⟨g.heap.size,CQ wb [c,i,j,k,l],rfl,E.later r,⟨_,_,_,_,_,_,by rw [Q];exact heap_alloc_new _ _,⟨m,AX.settled m _ _ _ _ (P.later r)⟩,?_,rfl⟩,(D.trans J).trans (Stp.AA r),by omega⟩;exact⟨rfl,none,0,rfl,n_,.inl rfl⟩
 clear q h d n p t u G H A C;go_enter func51,ntmps51;go_wp2_with fail;refine Calls.mono I ?_;rintro e g ⟨rfl,c,⟨_,rfl,K⟩,L,T⟩;have F:Hid (∀o,o=Obj.cells #[.pointer (some ⟨b,0,none⟩),.slice none 0 0,AM [],.int .i64 0,AM [],.pointer none] JL (0,0)->NG a wb (CQ wb [s,i,j,k,l]) W f (.returned (.pointer (some ⟨g.heap.size,0,none⟩))) (g.alloc o)):=fun o=>v.out g c o K L;clear K L T I;go_wp2_with fail;go_ret;exact F.out _ rfl
theorem t7(n:Int)(w:World):Calls prog 50 #[.int .i64 n] w fun e c=>e=.returned (.bool (Pl.over n))/\w=c:=by
 by_cases a:n<0
 ·rw [show Pl.over n=true from by simp [Pl.over,a]];go_enter func50,ntmps50;go_wp2_with fail;go_ret;exact⟨rfl,rfl⟩
 ·by_cases b:1000000<n
  ·rw [show Pl.over n=true from by simp [Pl.over,b]];go_enter func50,ntmps50;go_wp2_with fail;go_ret;exact⟨rfl,rfl⟩
  ·rw [show Pl.over n=false from by simp [Pl.over,a,b]];go_enter func50,ntmps50;go_wp2_with fail;go_ret;exact⟨rfl,rfl⟩
def VK(n:Nat)(W:PW)(S:PS):Prop:=(∃Inv,QX Inv/\Inv n W S)/\(A8 n W S).e<=100/\L2 (A8 n W S).W/\((A8 n W S).e=0->(A8 n W S).S.form=none/\BL (A8 n W S).W (A8 n W S).S.val)
def Q3(w:World)(wb:Nat)(M:Nat->Prop)(r:PW×PO)(e:Ending)(w':World):Prop :=e=.returned (oH r.2.code r.2.out r.2.val)/\∃M',RW w' wb M' r.1/\Stp M w M' w'
theorem tQ:u_ 43:=by unfold u_ RH;decide
theorem wT{w4:World}{M M2:Nat->Prop}{b:PW}{R:Nat}(f:RW w4 wb M2 b)(a:Stp M w M2 w4)(m:w.heap.size<=R)(h:w4.heap[R]?=some (.cells c 43 (0,0)))(x y z:Value) :RW (((w4.setCell ⟨R,0,none⟩ x).setCell ⟨R,1,none⟩ y).setCell ⟨R,2,none⟩ z) wb M2 b/\Stp M w M2 (((w4.setCell ⟨R,0,none⟩ x).setCell ⟨R,1,none⟩ y).setCell ⟨R,2,none⟩ z):=by have g:w4.grownBy (((w4.setCell ⟨R,0,none⟩ x).setCell ⟨R,1,none⟩ y).setCell ⟨R,2,none⟩ z) (some R):=aC (aC (aE w4 R 0 x) (aE _ R 1 y)) (aE _ R 2 z);refine⟨f.grown g h tQ,⟨g.os.trans a.os,g.tape.trans a.tape,g.output.trans a.output,t_ a.size g.size,fun k d i=>?_⟩⟩;obtain⟨j,l⟩:=a.block k d i;exact⟨(g.block k (l_ d a.size) (fun e=>by have:=i_ e;omega)).trans j,l⟩
theorem t8(hI:AY)(w:World)(wb:Nat)(M:Nat->Prop)(W:PW)(s:ByteArray)(n:Int)(hs:s.size<=maxLen)(hW:RW w wb M W)(hG:Gs w M)(hz:W.pairs.length<=100000000)(R:∀f,Pl.over n=false->Pl.check s.data.toList=0->Pl.BQ s.data.toList=some f->VK n.toNat (Pl.AR W f) (Pl.AV W f))(S:∀f,Pl.check s.data.toList=0->Pl.BQ s.data.toList=some f->(Pl.settle f W.pairs.length).2.length<=1000) :Calls prog 47 #[.pointer (some ⟨wb,0,none⟩),.agg #[.string s,.int .i64 n]] w fun e B=>Q3 w wb M (Pl.answer W (s.data.toList,n)) e B:=by
 have HW:=h_ hW;have HG:=h_ hG;have HI:Hid AY:=hI;have C:Hid (∀o1 o2:Obj,Below w.heap.size w ((w.alloc o1).alloc o2)):=fun o1 o2=>b_.alloc (by simp) _;have aj:=h_ R;have ak:=(show Hid (∀f,Pl.check s.data.toList=0->Pl.BQ s.data.toList=some f->W.pairs.length+(Pl.settle f W.pairs.length).2.length<=1000000000) from fun f h1 h2=>by have:=S f h1 h2;omega)
 have HS:=h_ hs;clear hW hG hI R S hz hs
 cases o:Pl.over n
 ·have al:0<=n/\n<=1000000:=by unfold Pl.over at o;simp at o;omega
  obtain⟨k,rfl⟩:∃k:Nat,n=(k:Int):=⟨n.toNat,by omega⟩
  have hk:k<=1000000:=by omega
  have D:=h_ o;have T:Hid (∀j,M j->j<w.heap.size):=fun j z=>HW.lt z;clear al;go_enter func47,ntmps47;go_wp2_with (go_at_call 50;refine(t7 (k:Int) _).mono ?_;rintro e B ⟨rfl,rfl⟩;rw [o]);obtain⟨p,t⟩:∃p,p=(w.alloc (.cells #[.string s,.int .i64 (k:Int)] 41)).alloc (.cells #[.int .i64 0,.string ⟨#[]⟩,.string ⟨#[]⟩] 43):=⟨_,rfl⟩
  have d:Hid (Below w.heap.size w p):=show Below _ _ _ from by rw [t];exact C.out _ _
  have l:Hid (p.heap[w.heap.size]?=some (.cells #[.string s,.int .i64 (k:Int)] 41 (0,0))/\p.heap[w.heap.size+1]?=some (.cells #[.int .i64 0,.string ⟨#[]⟩,.string ⟨#[]⟩] 43 (0,0))/\p.heap.size=w.heap.size+2):=by subst t;exact⟨(k_ (by simp)).trans (heap_alloc_new w _),kM w _ _,by simp⟩
  have U:=h_ (aEI s p HS);rw [<- t];clear t o;refine Calls.mono U ?_;rintro e w1 ⟨po,rfl,u,hr⟩;have am:=h_ u;have V:=h_ (d.trans (u.mono d.size));have HR:=h_ hr;have x:=(u.block (w.heap.size+1) (by have:=l.2.2;omega)).trans l.2.1;clear hr u U;by_cases E:Pl.check s.data.toList=0
  ·obtain⟨f,b,m,hf,rfl,hU⟩:=HR.out E;have HF:Hid (Pl.BQ s.data.toList=some f/\Pl.check s.data.toList=0):=⟨hf,E⟩
   rw [E];have X:=h_ (xP p w1 wb M W f b m (HW.later d) am hU (ak f E hf));clear hU HR E hf x;go_wp2_with fail;refine Calls.mono X ?_;rintro e F ⟨G,Y,rfl,Z,aa,i,ab⟩;obtain⟨⟨an,hL,q⟩,H,I,J⟩:=aj.out f D HF.2 HF.1;simp only [Int.toNat_natCast] at q H I J;have ac:=i.block w.heap.size (by have:=l.2.2;omega) (fun h=>by have:=T.out _ h;omega);have K:=i.block (w.heap.size+1) (by have:=l.2.2;omega) (fun h=>by have:=T.out _ h;omega);have ad:=ac.1.trans l.1
   have ae:Hid (Gs F (Mx Y G)):=show Gs _ _ from by
    have g:=(HG.below d).AQ i;refine⟨g.size,fun j z=>?_,g.B3⟩;rintro(h | h)
    ·exact g.low j z h
    ·have:=(HG.below d).size;omega
   have af:Hid (Calls prog 56 #[.pointer (some ⟨wb,0,none⟩),.pointer (some ⟨G,0,none⟩),.int .i64 k] F fun e B=>ResF Y F wb G (A8 k (Pl.AR W f) (Pl.AV W f)) e B):=xW HI an hL F wb G Y _ _ k (by omega) q Z aa ae;have ao:F.cell? ⟨w.heap.size,1,none⟩=some (.int .i64 (k:Int)):=aA ad 1;have HX:Hid (Stp M p Y F/\p.heap.size<=G/\F.heap[w.heap.size+1]?=some (.cells #[.int .i64 0,.string ⟨#[]⟩,.string ⟨#[]⟩] 43 (0,0))/\¬Y (w.heap.size+1)):=⟨i,ab,K.1.trans l.2.1,K.2⟩
   have L:=(show Hid ((A8 k (Pl.AR W f) (Pl.AV W f)).e<=100/\L2 (A8 k (Pl.AR W f) (Pl.AV W f)).W/\((A8 k (Pl.AR W f) (Pl.AV W f)).e=0->(A8 k (Pl.AR W f) (Pl.AV W f)).S.form=none/\BL (A8 k (Pl.AR W f) (Pl.AV W f)).W (A8 k (Pl.AR W f) (Pl.AV W f)).S.val)) from⟨H,I,J⟩)
   have HA:Hid (Pl.answer W (s.data.toList,(k:Int))=((A8 k (Pl.AR W f) (Pl.AV W f)).W,Pl.told (A8 k (Pl.AR W f) (Pl.AV W f)))):=show Pl.answer _ _=_ from by unfold Pl.answer;dsimp only;rw [if_neg (by simp [D.out]),if_neg (by simp [HF.2]),HF.1];simp only [Int.toNat_natCast]
   clear q hL H I J i Z aa ac K ad ab X;generalize A8 k (Pl.AR W f) (Pl.AV W f)=r at *;go_wp2_with fail;refine Calls.mono af ?_;rintro e A ⟨rfl,N,O,a,ag⟩;obtain⟨P,x2,x3,x4⟩:=HX.out;have h3:=a.block (w.heap.size+1) (aB x3) (by rintro(h | h);exact x4 h;have:=l.2.2;omega);have ap:Hid (Gs A N):=(ae.AQ a).mono (fun j z=>.inl z);have ah:Hid (Calls prog 57 #[.pointer (some ⟨wb,0,none⟩),.pointer (some ⟨G,0,none⟩),.int .i64 r.e] A fun e B=>e=.returned (oH r.e r.W.out (mL r.W r.S r.e))/\Below A.heap.size A B):=xS HI A wb G N r.W r.S r.e L.1 O ap L.2.1 (fun h0=>⟨ag (.inl h0),L.2.2 h0⟩);have HY:Hid (RW A wb N r.W/\Stp M w N A/\A.heap[w.heap.size+1]?=some (.cells #[.int .i64 0,.string ⟨#[]⟩,.string ⟨#[]⟩] 43 (0,0))):=by refine⟨O,⟨a.os.trans (P.os.trans d.os),a.tape.trans (P.tape.trans d.tape),a.output.trans (P.output.trans d.output),t_ d.size (t_ P.size a.size),fun j z hn=>?_⟩,h3.1.trans x3⟩;have ai:j<p.heap.size:=l_ z d.size;obtain⟨y1,y2⟩:=P.block j ai hn;obtain⟨y3,y4⟩:=a.block j (l_ ai P.size) (by rintro(h | h);exact y2 h;omega);exact⟨y3.trans (y1.trans (d.block j z)),fun h=>y4 (.inl h)⟩
   clear P x2 x3 x4 h3 O a ag af HX ao;go_wp2_with fail;refine Calls.mono ah ?_;rintro e w4 ⟨rfl,y⟩;obtain⟨y1,y2,y3⟩:=HY.out;have b4:=(y.block (w.heap.size+1) (aB y3)).trans y3;have Q:Hid (RW w4 wb N r.W/\Stp M w N w4/\w4.heap[w.heap.size+1]?=some (.cells #[.int .i64 0,.string ⟨#[]⟩,.string ⟨#[]⟩] 43 (0,0))):=⟨y1.later y,y2.trans (Stp.AA y),b4⟩
   obtain⟨t0,t1,t2,u0,u1,u2,r1,r2,r3⟩:=FA b4;clear y1 y2 y3 b4 y ah HY;have aq:Hid (Pl.told r=⟨r.e,r.W.out,mL r.W r.S r.e⟩):=rfl;unfold oH;generalize mL r.W r.S r.e=tv at *;go_wp2_with fail
   (try simp only [Exit.inBlock,Exit.then])
   refine bodyPost_ret (v:=oH r.e r.W.out tv) ?_ rfl ?_
   ·rw [aO rfl];simp only [oH]
    go_simp
    try rfl
   obtain⟨z1,z2⟩:=wT Q.1 Q.2.1 (Nat.le_succ _) Q.2.2 (.int .i64 r.e) (.string ⟨r.W.out.toArray⟩) (.string ⟨tv.toArray⟩);rw [HA.out,aq.out];exact⟨rfl,N,z1,z2⟩
  ·have HE:Hid (Pl.answer W (s.data.toList,(k:Int))=(W,⟨Pl.check s.data.toList,[],[]⟩)):=show Pl.answer _ _=_ from by unfold Pl.answer;dsimp only;rw [if_neg (by simp [D.out]),if_pos E]
   have ar:((Pl.check s.data.toList:Int)!=0)=true:=by simp;omega
   have Q:Hid (RW w1 wb M W/\Stp M w M w1/\w1.heap[w.heap.size+1]?=some (.cells #[.int .i64 0,.string ⟨#[]⟩,.string ⟨#[]⟩] 43 (0,0))):=⟨HW.later V,Stp.AA V,x⟩
   obtain⟨t0,t1,t2,u0,u1,u2,r1,r2,r3⟩:=FA x;clear E x HR;generalize Pl.check s.data.toList=c at *;go_wp2_with fail
   (try simp only [Exit.inBlock,Exit.then])
   refine bodyPost_ret (v:=oH c [] []) ?_ rfl ?_
   ·rw [aO rfl];simp only [oH]
    go_simp
    try rfl
   obtain⟨z1,z2⟩:=wT Q.1 Q.2.1 (Nat.le_succ _) Q.2.2 (.int .i64 c) (.string ⟨#[]⟩) (.string ⟨#[]⟩);rw [HE.out];exact⟨rfl,M,z1,z2⟩
 ·have HE:Hid (Pl.answer W (s.data.toList,n)=(W,⟨6,[],[]⟩)):=show Pl.answer _ _=_ from by unfold Pl.answer;rw [if_pos o]
  go_enter func47,ntmps47
  go_wp2_with (go_at_call 50;refine(t7 n _).mono ?_;rintro e B ⟨rfl,rfl⟩)
  (try simp only [Exit.inBlock,Exit.then])
  refine bodyPost_ret (v:=oH 6 [] []) ?_ rfl ?_
  ·rw [aO rfl];simp only [oH]
   go_simp
   try rfl
  rw [HE.out];exact⟨rfl,M,HW.later (C _ _),Stp.AA (C _ _)⟩
end
end Go.Proofs.YtkgbdddkcjpgfaaGreatDoor
