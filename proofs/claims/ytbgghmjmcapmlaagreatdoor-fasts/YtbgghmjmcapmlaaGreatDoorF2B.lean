import Derived.Test.YtbgghmjmcapmlaaGreatDoorF14
import Derived.Test.YtbgghmjmcapmlaaGreatDoorF15
namespace Go.Proofs.YtbgghmjmcapmlaaGreatDoor
set_option maxHeartbeats 4000000
set_option maxRecDepth 100000
open Go.Proofs.Tryz
open Pl (PV PW PS CW SR A8)
section
open Go.RowKit
namespace Pl
def W0:PW:=⟨[],[],[],[],[],[]⟩
def KF(l:List AE):PW:=l.foldl (fun W s=>bind W s (.AZ s)) W0
def AW:PW:=KF AO
end Pl
theorem nR(l:List Pl.AE)(s:Pl.AE):Pl.KF (l++[s])=Pl.bind (Pl.KF l) s (.AZ s):=by simp [Pl.KF,List.foldl_append]
theorem W0_ok:WW Pl.W0 0:=⟨fun i p h=>by simp [Pl.W0] at h,fun i p h=>by simp [Pl.W0] at h,n_,fun p h=>by simp [Pl.W0] at h,n_,fun p h=>by simp [Pl.W0] at h,n_,fun p h=>by simp [Pl.W0] at h,n_,fun p h=>by simp [Pl.W0] at h,n_⟩
theorem vQ(l:List Pl.AE)(h:∀s∈l,s∈Pl.AO):WW (Pl.KF l) l.length:=by
 have b:∀n (l:List Pl.AE),l.length=n->(∀s∈l,s∈Pl.AO)->WW (Pl.KF l) n:=by
  intro n
  induction n with
  | zero=>intro l a _;obtain rfl:=e_ a;exact W0_ok
  | succ n f =>
   intro l a d;obtain⟨c,s,rfl⟩:∃c s,l=c++[s]:=⟨l.dropLast,l.getLast (by intro e;simp [e] at a),(List.dropLast_concat_getLast _).symm⟩
   rw [nR];exact(jR (f c zM1 (fun x g=>d x (by simp [g]))) s (.AZ s) (d s w9)).1
 exact b _ l rfl h
theorem vP:WW Pl.AW 13:=vQ Pl.AO (fun _ h=>h)
theorem RW.empty{w:World}{wb:Nat}(h:w.heap[wb]?=some (.cells #[.slice none 0 0,.slice none 0 0,.slice none 0 0,.slice none 0 0,.slice none 0 0,.string ⟨#[]⟩] MG (0,0))):RW w wb (CQ wb [.slice none 0 0,.slice none 0 0,.slice none 0 0,.slice none 0 0,.slice none 0 0]) Pl.W0 :=⟨_,_,_,_,_,[],[],rfl,⟨h,World.ownsRow_nil _ _ _ _,World.ownsRow_nil _ _ _ _,fun i p a=>by simp [Pl.W0] at a,World.ownsRow_nil _ _ _ _,fun i p a=>by simp [Pl.W0] at a,World.ownsRow_nil _ _ _ _,World.ownsRow_nil _ _ _ _,by simp [Pl.W0]⟩⟩
theorem pB(wb k:Nat)(h:k≠wb):¬CQ wb [.slice none 0 0,.slice none 0 0,.slice none 0 0,.slice none 0 0,.slice none 0 0] k:=by
 rintro(e | ⟨v,a,b⟩)
 ·exact h e
 ·simp only [List.mem_cons,List.not_mem_nil,or_false,or_self] at a;subst a;simp [Value.ownBlock] at b
theorem m0(w:World) :Q2 10 #[] w fun e f=>e=.returned (Q0 w.heap.size)/\Q3 w f/\∃M,RW f w.heap.size M Pl.AW/\∀k,k<w.heap.size->¬M k:=by
 have h:∀B C:Obj,Q3 w (((w.alloc (.cells #[.slice none 0 0,.slice none 0 0,.slice none 0 0,.slice none 0 0,.slice none 0 0,.string ⟨#[]⟩] 55)).alloc B).alloc C):=fun B C=>(b_.alloc w9 _).alloc r7 _;have i:=h_ h;clear h;go_enter func10,ntmps10;go_wp2_with fail;refine(bQ _).mono ?_;rintro e f ⟨rfl,rfl⟩;have a:=h_ (i aJ aH);have D:(((w.alloc (.cells #[.slice none 0 0,.slice none 0 0,.slice none 0 0,.slice none 0 0,.slice none 0 0,.string ⟨#[]⟩] 55)).alloc aJ).alloc aH).heap[w.heap.size]?=some (.cells #[.slice none 0 0,.slice none 0 0,.slice none 0 0,.slice none 0 0,.slice none 0 0,.string ⟨#[]⟩] MG (0,0)):=by rw [k_ r7,k_ w9];exact heap_alloc_new _ _
 have E:(((w.alloc (.cells #[.slice none 0 0,.slice none 0 0,.slice none 0 0,.slice none 0 0,.slice none 0 0,.string ⟨#[]⟩] 55)).alloc aJ).alloc aH).heap[w.heap.size+1]?=some aJ:=by
  rw [k_ w9];have:=heap_alloc_new (w.alloc (.cells #[.slice none 0 0,.slice none 0 0,.slice none 0 0,.slice none 0 0,.slice none 0 0,.string ⟨#[]⟩] 55)) aJ
  rwa [show(w.alloc (.cells #[.slice none 0 0,.slice none 0 0,.slice none 0 0,.slice none 0 0,.slice none 0 0,.string ⟨#[]⟩] 55)).heap.size=w.heap.size+1 from by simp] at this
 have l:=h_ (RW.empty D);have F:=h_ E;clear D E i;generalize ((w.alloc (.cells #[.slice none 0 0,.slice none 0 0,.slice none 0 0,.slice none 0 0,.slice none 0 0,.string ⟨#[]⟩] 55)).alloc aJ).alloc aH=G at *;have o:=aB F;go_wp2_with fail
 go_loopw [4] (fun p wr=>∃(k:Nat)(g:Q5),k<=13/\p=.int .i64 k/\Hid (RW wr w.heap.size g (Pl.KF (Pl.AO.take k)))/\Hid (Stp (CQ w.heap.size [.slice none 0 0,.slice none 0 0,.slice none 0 0,.slice none 0 0,.slice none 0 0]) G g wr)) (fun p _=>13-(intOf p).toNat)
 case atStart=>exact⟨0,_,Nat.zero_le _,rfl,l,Stp.refl _ _⟩
 case round =>
  obtain⟨k,g,T,rfl,H,d⟩:=hrel;by_cases q:k<13
  ·obtain⟨s,r⟩:∃s,Pl.AO[k]?=some s:=⟨_,g_ q⟩
   have N:Hid (Pl.KF (Pl.AO.take (k+1))=Pl.bind (Pl.KF (Pl.AO.take k)) s (.AZ s)):=show _=_ from by rw [<- nR,List.take_add_one,r];rfl
   have c:=vQ (Pl.AO.take k) (fun x O=>List.mem_of_mem_take O);have t:(Pl.AO.take k).length<=13:=by rw [List.length_take];omega
   have u:=c.EM;have v:=c.D1;have U:wr.cell? ⟨w.heap.size+1,k,none⟩=some (.string ⟨s.toArray⟩):=by have P:=(d.block (w.heap.size+1) o (pB _ _ x8)).1.trans F;have y:wr.heap[w.heap.size+1]?=some (.cells (Pl.AO.map AM).toArray 9 (0,0)):=P;rw [aA y k];simp only [List.getElem?_toArray,List.getElem?_map,r];rfl
   have z:Hid (Q2 20 #[Q0 w.heap.size,.string ⟨s.toArray⟩,.agg #[.string ⟨#[112,114,105,109,105,116,105,118,101]⟩,Q1 0,.string ⟨s.toArray⟩]] wr.drew fun e f=>e=.returned (.tuple #[])/\∃I,RW f w.heap.size I (Pl.bind (Pl.KF (Pl.AO.take k)) s (.AZ s))/\Stp g wr.drew I f) :=qI wr.drew w.heap.size g (Pl.KF (Pl.AO.take k)) s (.AZ s) (H.later r_.drew) c.globals x8 x8;have Q:(k:Int)<13:=by omega
   clear r c u v t;go_wp2_with fail;go_region_with (go_at_call 20;refine Calls.mono z ?_;rintro e J ⟨rfl,A,K,L⟩)
   all_goals
    have R:Hid (RW J w.heap.size A (Pl.KF (Pl.AO.take (k+1)))):=show RW _ _ _ _ from by rw [N.out];exact K
    have S:Hid (Stp (CQ w.heap.size [.slice none 0 0,.slice none 0 0,.slice none 0 0,.slice none 0 0,.slice none 0 0]) G A J):=d.trans ((Stp.AA r_.drew).trans L);clear K L;go_wp2_with fail
    go_roundw
    case rel=>exact⟨k+1,A,x8,k7,R,S⟩
    case measure=>simp [intOf];omega
  ·have m:k=13:=by omega
   subst m;go_wp2_with fail;go_ret;have b:=d.out;refine⟨rfl,⟨b.os.trans a.os,b.tape.trans a.tape,b.output.trans a.output,t_ a.size b.size,fun j n=>?_⟩,g,H,fun j n=>?_⟩
   ·rw [(b.block j (l_ n a.size) (pB _ _ x8)).1];exact a.block j n
   ·exact(b.block j (l_ n a.size) (pB _ _ x8)).2
end
open Pl (AE)
section
open Go.RowKit
def mL(W:PW)(S:PS)(n:Nat):AE:=if n=0 then Pl.cut (Pl.text W.pairs S.val) else []
def oH(n:Nat)(out val:AE):Value:=.agg #[Q1 n,.string ⟨out.toArray⟩,.string ⟨val.toArray⟩]
theorem xS(D:AY)(w:World)(wb m:Nat)(M:Q5)(W:PW)(S:PS)(n:Nat)(hn:n<=100)(X:RW w wb M W)(E:Gs w M)(y:L2 W)(F:n=0->RS M w m S/\S.form=none/\BL W S.val) :Q2 15 #[Q0 wb,Q0 m,Q1 n] w fun e z=>e=.returned (oH n W.out (mL W S n))/\Q3 w z:=by
 have HW:Hid (RW w wb M W):=X;obtain⟨pv,qv,cv,lv,gv,qs,cs,hM,f⟩:=X;have G:=aB f.blk;have c5:w.cell? ⟨wb,5,none⟩=some (.string ⟨W.out.toArray⟩):=aA f.blk 5;obtain⟨a1,_,a3,_⟩:=bM (o:=5) G;have a:Hid (∀b c:Obj,Q3 w ((w.alloc b).alloc c)):=fun b c=>b_.alloc w9 _;have Y:=f.out;clear hM f;by_cases H:n=0
 ·subst H;obtain⟨hR,Z,A⟩:=F rfl;obtain⟨fv,ev,x0,x1,x2,aa,d,s1,_,_⟩:=hR;simp only [JN,Z] at s1;obtain⟨_,j⟩:=s1;simp only [cZ,List.cons.injEq,and_true] at j;obtain⟨rfl,rfl,rfl⟩:=j;have ab:=aB d;have I:Hid (mL W S 0=Pl.cut (Pl.text W.pairs S.val)):=rfl;have y2:w.cell? ⟨m,2,none⟩=some (.string ⟨(vK S.val).toArray⟩):=aA d 2;have y3:w.cell? ⟨m,3,none⟩=some (Q1 (vN S.val)):=aA d 3;have y4:w.cell? ⟨m,4,none⟩=some (.string ⟨(vS S.val).toArray⟩):=aA d 4;have qB:∀(b c:Obj)(k g:Nat),k<w.heap.size->((w.alloc b).alloc c).cell? ⟨k,g,none⟩=w.cell? ⟨k,g,none⟩:=fun b c k g hk=>(a b c).cell (p:=⟨k,g,none⟩) hk
  have J:Hid (Pl.B7 S.val<=1000000000):=show _<=_ from by
   have h2:=y.len
   cases K:S.val with
   | pair i=>rw [K] at A;simp only [Pl.B7];have:i<W.pairs.length:=A;omega
   | _=>simp [Pl.B7]
  have L:Hid (∀b c:Obj,Q2 30 #[Q0 wb,.agg #[.string ⟨(vK S.val).toArray⟩,Q1 (vN S.val),.string ⟨(vS S.val).toArray⟩],.string ⟨#[]⟩] ((w.alloc b).alloc c) fun e z=>IC W S.val [] 1000000000 ((w.alloc b).alloc c) e z):=fun b c =>lF D wb M W y 1000000000 n_ _ S.val [] (HW.later (a b c)) (E.below (a b c)) A J w9;clear F Z A d E y D;generalize vK S.val=kk at *;generalize vN S.val=nn at *;generalize vS S.val=ss at *;go_enter func15,ntmps15;go_wp2_with fail;refine(L _ _).mono ?_;rintro e h ⟨B,r,rfl,hq,q⟩;have s:=(B.block w.heap.size r7).trans ((k_ w9).trans (heap_alloc_new w _));have u:=(B.block (w.heap.size+1) w9).trans (zN w _ _ _);have N:Hid (Q3 w h):=(a _ _).trans (B.mono (a _ _).size);have HQ:Hid (Pl.cut r=Pl.cut (Pl.text W.pairs S.val)):=hq.cut;have O:Hid (r.length<=2000000000):=show _<=_ from by simp only [z_] at q;omega
  have P:Hid (h.heap[w.heap.size]?=some (.cells #[Q1 0,.string ⟨#[]⟩,.string ⟨#[]⟩] 46 (0,0))):=s;have l:Hid (h.heap[w.heap.size+1]?=some (.cells #[Q1 0,.string ⟨W.out.toArray⟩,.string ⟨#[]⟩] 46 (0,0))):=u;clear B hq q s u;go_wp2_with fail;refine(uE _ r (by have:=O.out;omega)).mono ?_;rintro e z ⟨rfl,rfl⟩;rw [HQ.out];have p2:h.cell? ⟨w.heap.size+1,2,none⟩=some (.string ⟨#[]⟩):=aA l 2;have f2:h.frozen? ⟨w.heap.size+1,2,none⟩=false:=aF l 2;have C:∀v:Value,(h.setCell ⟨w.heap.size+1,2,none⟩ v).heap[w.heap.size+1]?=some (.cells #[Q1 0,.string ⟨W.out.toArray⟩,v] 46 (0,0)):=fun v=>aD l 2 v;have hY:∀v:Value,(h.setCell ⟨w.heap.size+1,2,none⟩ v).heap[w.heap.size]?=some (.cells #[Q1 0,.string ⟨#[]⟩,.string ⟨#[]⟩] 46 (0,0)):=fun v=>by rw [Below.heap_setCell _ _ _ _ (fun e=>by simp at e)];exact P
  have Q:=fun v=>aA (C v) 0;have R:=fun v=>aA (C v) 1;have U:=fun v=>aA (C v) 2;simp only [List.getElem?_toArray,List.getElem?_cons_succ,List.getElem?_cons_zero] at Q R U;have x:Hid (∀v:Value,Q3 w (h.setCell ⟨w.heap.size+1,2,none⟩ v)):=fun v=>bO N x8 _ _;have T:=fun v=>FA (hY v);generalize Pl.cut (Pl.text W.pairs S.val)=t at *;have T':=T (.string ⟨t.toArray⟩);have Z0:=Q (.string ⟨t.toArray⟩);have Z1:=R (.string ⟨t.toArray⟩);have Z2:=U (.string ⟨t.toArray⟩);obtain⟨t0,t1,t2,u0,u1,u2,r1,r2,r3⟩:=T';have V:Hid (Q3 w (h.setCell ⟨w.heap.size+1,2,none⟩ (.string ⟨t.toArray⟩))):=x.out _;clear Q R U T C hY x;go_wp2_with fail
  (try simp only [Exit.inBlock,Exit.then])
  refine bodyPost_ret (v:=oH 0 W.out t) ?_ rfl ?_
  ·rw [aO rfl];simp only [oH]
   go_simp
  ·refine⟨by rw [I.out],?_⟩;exact bO (bO (bO V n_ _ _) n_ _ _) n_ _ _
 ·have I:Hid (mL W S n=[]):=show mL W S n=[] from by unfold mL;rw [if_neg H]
  have ac:((n:Int)==0)=false:=by rw [beq_eq_false_iff_ne];omega
  clear F H E y D;go_enter func15,ntmps15;go_wp2_with fail
  (try simp only [Exit.inBlock,Exit.then])
  refine bodyPost_ret (v:=oH n W.out []) ?_ rfl ?_
  ·rw [aO rfl];simp only [oH]
   go_simp
   try rfl
  ·exact⟨by rw [I.out],a _ _⟩
end
section
open Go.RowKit Go.Lib Go.Maps
def TIn:TypeId:=29
def oE(w:World)(b:Q8)(n:Int):World:=(w.alloc (.cells #[.string b,Q1 n] TIn)).alloc (.cells #[Q1 0,.string ⟨#[]⟩,.string ⟨#[]⟩] FZ)
def U8(w:World)(R:Nat)(c:Int)(o t:Q8):World:=((w.setCell ⟨R,0,none⟩ (.int .i64 c)).setCell ⟨R,1,none⟩ (.string o)).setCell ⟨R,2,none⟩ (.string t)
theorem ZF(w:World)(b:Q8)(n:Int):(oE w b n).heap[w.heap.size]?=some (.cells #[.string b,Q1 n] TIn (0,0))/\(oE w b n).heap[w.heap.size+1]?=some (.cells #[Q1 0,.string ⟨#[]⟩,.string ⟨#[]⟩] FZ (0,0))/\(oE w b n).heap.size=w.heap.size+2/\Q3 w (oE w b n):=by refine⟨(k_ w9).trans (heap_alloc_new w _),?_,by simp [oE],b_.alloc w9 _⟩;have:=heap_alloc_new (w.alloc (.cells #[.string b,Q1 n] TIn)) (.cells #[Q1 0,.string ⟨#[]⟩,.string ⟨#[]⟩] FZ);rw [show(w.alloc (.cells #[.string b,Q1 n] TIn)).heap.size=w.heap.size+1 from by simp] at this;exact this
theorem gS(w:World)(ev tb:Value)(b:Q8)(n:Int)(c:Nat)(Q:World->Prop)
  (l:∃T x,ev=.iface T x) (m:∃o,tb=.pointer o)
  (h:Q2 31 #[.agg #[.string b,Q1 n],tb] (oE w b n) fun e f=>∃v p,e=.returned (.tuple #[v,aY p (c:Int)])/\Q f)
  (r:∀f,Q f->GT f/\f.heap[w.heap.size+1]?=some (.cells #[Q1 0,.string ⟨#[]⟩,.string ⟨#[]⟩] FZ (0,0))) :
  Q2 17 #[ev,.agg #[.string b,Q1 n],tb] w fun e f=>∃a d,e=.returned (.agg #[Q1 c,.string ⟨#[]⟩,.string ⟨#[]⟩])/\Q a/\Q3 a d/\f=U8 d (w.heap.size+1) c ⟨#[]⟩ ⟨#[]⟩:=by
 have q:=h_ h;have t:=h_ r;obtain⟨T,x,rfl⟩:=l;obtain⟨o,rfl⟩:=m;clear h r;go_enter func17,ntmps17
 go_upto_region 2 with(go_at_call 31;refine Calls.mono q ?_;rintro e a ⟨v,p,rfl,s⟩)
 obtain⟨i,g⟩:=t.out a s;have j:=h_ (aCA p c a i);have u:Hid (∀d,Q3 a d->d.heap[w.heap.size+1]?=some (.cells #[Q1 0,.string ⟨#[]⟩,.string ⟨#[]⟩] FZ (0,0))):=fun d y=>(y.block _ (aB g)).trans g;clear i g;unfold aY at j ⊢;go_wp2_with (go_at_call 32;refine Calls.mono j ?_;rintro e d ⟨rfl,k⟩;obtain⟨z,A,B,C,D,E,F,G,H⟩:=FA (u d k))
 (try simp only [Exit.inBlock,Exit.then])
 refine bodyPost_ret (v:=.agg #[Q1 c,.string ⟨#[]⟩,.string ⟨#[]⟩]) ?_ rfl ?_
 ·rw [aO rfl]
  go_simp
  try rfl
 exact⟨a,d,rfl,s,k,rfl⟩
end
section
open Go.RowKit
variable {w0 w:World} {wb:Nat} {W:PW} {pv qv cv lv gv pv':Value} {qs cs:List Value}
structure FP(w0 w:World)(wb:Nat)(W:PW)(pv qv cv lv gv:Value)(qs cs:List Value)(l:List (PV×PV))(pv':Value):Prop where
 old:EV w0 wb W pv qv cv lv gv qs cs
 IV:Chg w0 w wb pv.ownBlock
 blk:w.heap[wb]?=some (.cells #[pv',qv,cv,lv,gv,AM W.out] MG (0,0))
 row:w.ownsRow 0 VR 6 pv' (W.pairs.length+l.length) ((W.pairs++l).flatMap mG)
 at_:∀k,pv'.ownBlock=some k->pv.ownBlock=some k\/w0.heap.size<=k
theorem FP.start(h:EV w0 wb W pv qv cv lv gv qs cs)(a:Q3 w0 w):FP w0 w wb W pv qv cv lv gv qs cs [] pv:=by have c:=h.later (fun k b=>a.block k b) (Stp.AA a);exact⟨h,⟨a.os,a.tape,a.output,a.size,fun k b _ _=>a.block k b⟩,c.blk,by simpa using c.pr,fun k b=>.inl b⟩
theorem FP.grown{w':World}{l:List (PV×PV)}(h:FP w0 w wb W pv qv cv lv gv qs cs l pv'){row:Option Nat}(a:w.grownBy w' row)(d:∀k,row=some k->w0.heap.size<=k/\pv'.ownBlock≠some k):FP w0 w' wb W pv qv cv lv gv qs cs l pv':=by
 have m:=aB h.old.blk;have f:=h.IV.size;refine⟨h.old,⟨a.os.trans h.IV.os,a.tape.trans h.IV.tape,a.output.trans h.IV.output,t_ f a.size,fun k n o p=>?_⟩,?_,?_,h.at_⟩
 ·rw [a.block k x8 (fun e=>by have:=(d k e.symm).1;omega)];exact h.IV.block k n o p
 ·rw [a.block wb (aB h.blk) (fun e=>by have:=(d wb e.symm).1;omega)];exact h.blk
 ·refine⟨h.row.1,?_⟩;rcases h.row.2 with q | ⟨g,i,j,rfl,r,b,c⟩
  ·exact .inl q
  ·exact .inr ⟨g,i,j,rfl,r,(a.block g (aB b) (fun e=>(d g e.symm).2 rfl)).trans b,c⟩
theorem FP.later{w':World}{l:List (PV×PV)}(h:FP w0 w wb W pv qv cv lv gv qs cs l pv')(a:Q3 w w'):FP w0 w' wb W pv qv cv lv gv qs cs l pv' :=h.grown (aQ none a) (fun k e=>by cases e)
theorem FP.done{l:List (PV×PV)}(h:FP w0 w wb W pv qv cv lv gv qs cs l pv') :EV w wb {W with pairs:=W.pairs++l} pv' qv cv lv gv qs cs/\Stp (CQ wb [pv,qv,cv,lv,gv]) w0 (CQ wb [pv',qv,cv,lv,gv]) w:=by have a:=aN h.old.pr;have c:Stp (CQ wb [pv,qv,cv,lv,gv]) w0 (CQ wb [pv',qv,cv,lv,gv]) w :=h.IV.AQ (fun k e=>.inr ⟨pv,w9,e⟩) (fJ (v:=pv) (v':=pv') w9 zL9 h.at_);refine⟨h.old.upd c h.blk ?_ (aL h.old.pc h.IV h.old.blk a w8 w8) (aL h.old.cn h.IV h.old.blk a w8 w8) (aL h.old.pl h.IV h.old.blk a w8 w8) (aL h.old.gl h.IV h.old.blk a w8 w8) h.old.out (fun i p b=>.inl ⟨b,rfl,rfl⟩) (fun i f b=>.inl ⟨b,rfl⟩),c⟩;simpa using h.row
theorem uC(E w:World)(wb:Nat)(W:PW)(F G I J K:Value)(L cs:List Value)(l:List (PV×PV))(d:Value)(x y:PV)(h:FP E w wb W F G I J K L cs l d)(hn:W.pairs.length+l.length<=1000000000) :Q2 56 #[Q0 wb,bT x,bT y] w fun e M=>e=.returned (bT (.pair (W.pairs.length+l.length)))/\∃r,FP E M wb W F G I J K L cs (l++[(x,y)]) r/\w.heap.size<=M.heap.size/\(∀k,k<w.heap.size->k≠wb->d.ownBlock≠some k->M.heap[k]?=w.heap[k]?):=by
 obtain⟨i0,O,P,Q,R⟩:=info_parts Tryz.TW;have H:=h_ h;have s:=aB h.blk;have aa:=aB h.old.blk;have ab:=h.IV.size;have c3:w.cell? ⟨wb,0,none⟩=some d:=aA h.blk 0;have a3:=fun C S T=>(YW (o:=0) s C S T C).1;have a4:=fun C S T o4=>(YW (o:=0) s C S T o4).2.1;clear h;obtain⟨N,U⟩:∃N,N=W.pairs.length+l.length:=⟨_,rfl⟩
 have HN:=h_ U;rw [<- U] at hn ⊢;clear U;have c:Hid (w.ownsRow 0 VR 6 d N ((W.pairs++l).flatMap mG)):=show World.ownsRow _ _ _ _ _ _ _ from by rw [HN.out];exact H.row
 unfold bT AM;go_enter func56,ntmps56;go_wp2_with fail
 go_region_law ((refine step_append_lies _ m6 _ _ _ m6 0 139 i0 _ 6 80 underlying49 O P Q R rfl x8 d N ((W.pairs++l).flatMap mG) m6 (((((c.alloc _).alloc _).alloc _).alloc _).drew) ⟨w.heap.size+3,0,none⟩ 1 1 (mG (x,y)) m6 m6 (World.news_of_block (cs:=#[AM (vK x),Q1 (vN x),AM (vS x),AM (vK y),Q1 (vN y),AM (vS y)]) (t:=139) (fr:=(0,0)) (B_ w _ _ _ _ _)) (by simp [Value.oneCell',cZ,mG,AM]) x8 o6 x8 w9 (w.heap.size+4) w9 ?_;intro i b D j a m u;obtain⟨k1,k2,k3⟩:=fD H.blk (jU w _ _ _ _) a (aN c) w8 0 d rfl))
 all_goals
  have hX:=tV (wb:=wb) (wO a (new3 w _ _ _ _ _) (fun e=>by have:=(c.lt _ e).2;omega)) (show w.heap.size+2≠wb from by omega) 0 (.slice (some ⟨i,0,none⟩) (N+1) b)
  have z:i≠w.heap.size+2:=by
   rcases m with e | rfl
   ·have:=(c.lt _ e).2;omega
   ·omega
  have Q1:Hid (FP E (D.setCell ⟨wb,0,none⟩ (.slice (some ⟨i,0,none⟩) (N+1) b)) wb W F G I J K L cs (l++[(x,y)]) (.slice (some ⟨i,0,none⟩) (N+1) b)):=by
   have A:=mJ H.blk (jU w _ _ _ _) a (aN c) w8;have n:=dJ (jU w _ _ _ _) a (wb:=wb) 0 (.slice (some ⟨i,0,none⟩) (N+1) b);have f:=H.IV;refine⟨H.old,⟨n.os.trans f.os,n.tape.trans f.tape,n.output.trans f.output,t_ f.size n.size,fun k g p q=>?_⟩,by rw [aD A];rfl,?_,?_⟩
   ·rw [n.block k (l_ g f.size) p ?_,f.block k g p q];intro e;rcases H.at_ k e.symm with B | B
    ·exact q B.symm
    ·omega
   ·have this:World.ownsRow _ 0 VR 6 _ _ _:=fH A w8 0 (.slice (some ⟨i,0,none⟩) (N+1) b) j;rw [a_,List.length_singleton,<-Nat.add_assoc,<-HN.out,<-List.append_assoc,List.flatMap_append];simpa using this
   ·intro k g;simp only [Value.ownBlock,o_] at g;subst g;rcases m with B | B
    ·exact H.at_ _ B
    ·have:=f.size;exact .inr x8
  have V:Hid (w.heap.size<=(D.setCell ⟨wb,0,none⟩ (.slice (some ⟨i,0,none⟩) (N+1) b)).heap.size/\(∀k,k<w.heap.size->k≠wb->d.ownBlock≠some k->(D.setCell ⟨wb,0,none⟩ (.slice (some ⟨i,0,none⟩) (N+1) b)).heap[k]?=w.heap[k]?)):=by have n:=dJ (jU w _ _ _ _) a (wb:=wb) 0 (.slice (some ⟨i,0,none⟩) (N+1) b);exact⟨n.size,fun k g p q=>n.block k g p (fun e=>q e.symm)⟩
  have Y:=h_ z;have k4:=k3 (.slice (some ⟨i,0,none⟩) (N+1) b);clear j a m u H c k1 k2 k3 z;generalize D.setCell ⟨wb,0,none⟩ (.slice (some ⟨i,0,none⟩) (N+1) b)=X at *;obtain⟨r0,r1,r2,f0,f1,f2,s1,s2,s3⟩:=FA hX;clear hX;go_wp2_with fail
  (try simp only [Exit.inBlock,Exit.then])
  refine bodyPost_ret (v:=bT (.pair N)) ?_ rfl ?_
  ·rw [aO rfl];simp only [bT,AM,vK,vN,vS,pI]
   go_simp
  ·have Z:=grown3 X (w.heap.size+2) (.string ⟨#[112,97,105,114]⟩) (.int .i64 N) (.string ⟨#[]⟩);refine⟨rfl,_,Q1.grown Z (fun k g=>⟨by simp at g;omega,fun e=>by simp at g;subst g;simp only [Value.ownBlock,o_] at e;exact Y.out e⟩),t_ V.1 Z.size,fun k g p q=>?_⟩;rw [Z.block k (l_ g V.1) r7];exact V.2 k g p q
end
open Pl (AU)
section
open Go.RowKit Go.Lib Go.Maps
variable {n0:List AE} {n gb:Nat} {nm:AE} {w w':World}
def oF:List AE:=AU::Pl.AO.take 12
theorem kZ:oF.Nodup:=by decide
theorem aAQ:oF.length=13:=rfl
def NJ:Nat->Value
 | 0=>.iface 146 (.agg #[])
 | k+1=>.iface 149 (.int .i64 (k:Int))
def H8(n0:List AE):Nat->List AE
 | 0=>n0
 | n+1=>match oF[n]? with
  | some nm=>b9 (H8 n0 n) nm
  | none=>H8 n0 n
theorem aA8(hi:oF[n]?=some nm):H8 n0 (n+1)=b9 (H8 n0 n) nm:=by show(match oF[n]? with | some nm=>b9 (H8 n0 n) nm | none=>H8 n0 n)=_;rw [hi]
theorem aBB(a:List AE):∀n,(H8 a n).length<=a.length+n
 | 0=>n_
 | n+1=>by
  have:=aBB a n;show(match oF[n]? with | some b=>b9 (H8 a n) b | none=>H8 a n).length<=_;split
  ·rename_i b _;have:=dE (H8 a n) b;omega
  ·omega
theorem num_at(w:World)(tb mb i:Nat)(a:List AE)(f:a.length<=1000)(nm:AE)(h:IW w tb mb (H8 a i))(hi:oF[i]?=some nm):Q2 50 #[Q0 tb,.string ⟨nm.toArray⟩] w fun e b=>e=.returned (Q1 ((H8 a i).idxOf nm:Nat))/\IW b tb mb (H8 a (i+1))/\w.grownBy b (some mb):=by
 have c:=(s_ hi).1
 have d:nm.length<=10:=by
  have:∀x∈oF,x.length<=10:=by decide
  exact this nm (q_ hi)
 have l:=aBB a i;rw [aAQ] at c;refine(jE w tb mb (H8 a i) nm h x8 x8).mono (fun e b ⟨g,j,k⟩=>⟨g,?_,k⟩);rw [aA8 hi];exact j
structure GI(w:World)(gb:Nat)(n0:List AE)(n:Nat)(D:DataW Value):Prop where
 own:w.ownsMap prog 3 heldE gb n D
 tidy:Tidy D
 nodup:(H8 n0 n).Nodup
 yes:∀(j:Nat)(nm:AE),j<n->oF[j]?=some nm->∃k:Nat,(H8 n0 n)[k]?=some nm/\Maps.has D (.int .i64 (k:Int))=true/\∀z,D.atKey (.int .i64 (k:Int)) z=.held (NJ j)
 no:∀k:Nat,Maps.has D (.int .i64 (k:Int))=true->∃(j:Nat)(nm:AE),j<n/\oF[j]?=some nm/\(H8 n0 n)[k]?=some nm
 nat:∀x:Int,Maps.has D (.int .i64 x)=true->∃k:Nat,x=(k:Int)
theorem GI.keep{D:DataW Value}(h:GI w gb n0 n D)(a:w'.heap[gb]?=w.heap[gb]?):GI w' gb n0 n D:=by obtain⟨b,c,d,r⟩:=h.own;exact⟨⟨b,c,a.trans d,r⟩,h.tidy,h.nodup,h.yes,h.no,h.nat⟩
theorem aCM{ns:List AE}(h:ns.Nodup)(nm:AE):(b9 ns nm).Nodup:=by
 unfold b9;split
 ·exact h
 ·rename_i d;rw [List.nodup_append];refine⟨h,w9,fun a e b c=>?_⟩;rintro rfl;simp at c;subst c;exact d e
theorem aD3{i j:Nat}(hi:oF[i]?=some nm)(a:oF[j]?=some nm):i=j:=by have b:=cV kZ hi;have c:=cV kZ a;omega
theorem GI.store{D:DataW Value}(s:n0.length<=1000)(h:GI w gb n0 n D)(hi:oF[n]?=some nm):∃f,(Instr.mapUpdate 110 (.map (some gb)) (.int .i64 ((H8 n0 n).idxOf nm:Nat)) (NJ n)).run prog w=.ok () f/\GI f gb n0 (n+1) (D.put (.int .i64 ((H8 n0 n).idxOf nm:Nat)) (.held (NJ n)))/\w.grownBy f (some gb):=by
 have t:=(s_ hi).1;rw [aAQ] at t;have C:=aBB n0 n;have E:(H8 n0 n).idxOf nm<=(H8 n0 n).length:=List.idxOf_le_length;have m:((b9 (H8 n0 n) nm))[(H8 n0 n).idxOf nm]?=some nm:=internL_get _ _;have a:∀{k x},(H8 n0 n)[k]?=some x->(b9 (H8 n0 n) nm)[k]?=some x:=fun l=>bS (pL _ _) l;have o:=aCM h.nodup nm;have b:WideAt.IsKeyLit (.int .i64 ((H8 n0 n).idxOf nm:Nat)):=trivial;obtain⟨f,u,v,A⟩:=h.own.store TN underlying110 o6 (TQ (k:=(H8 n0 n).idxOf nm) (by unfold MH;omega)) (d:=.held (NJ n)) (ps:=[]) (val:=NJ n) rfl;refine⟨f,u,⟨v,h.tidy.put b _,by rw [aA8 hi];exact o,fun j x F c=>?_,fun k l=>?_,fun x g=>?_⟩,A.grown⟩
 ·rw [aA8 hi];by_cases e:j=n
  ·subst e;obtain rfl:nm=x:=i_ (hi.symm.trans c);exact⟨_,m,has_put_same h.tidy.isMap b _,fun z=>atKey_put_same h.tidy.isMap b _ z⟩
  ·obtain⟨k,p,q,r⟩:=h.yes j x x8 c;have i:k≠(H8 n0 n).idxOf nm:=fun B=>by have:=a p;rw [B,m] at this;obtain rfl:=i_ this;exact e (aD3 c hi)
   exact⟨k,a p,by rw [has_put_other (eK i)];exact q,fun z=>by rw [atKey_put_other (eK i)];exact r z⟩
 ·rw [aA8 hi];by_cases e:k=(H8 n0 n).idxOf nm
  ·exact⟨n,nm,x8,hi,by rw [e];exact m⟩
  ·rw [has_put_other (eK e)] at l;obtain⟨j,x,p,q,r⟩:=h.no k l;exact⟨j,x,x8,q,a r⟩
 ·by_cases e:x=((H8 n0 n).idxOf nm:Nat)
  ·exact⟨_,e⟩
  ·rw [has_put_other (fun y=>e (by injection y))] at g;exact h.nat x g
def GQ(w:World)(tb mb gb:Nat)(n0:List AE)(n:Nat)(w':World):Prop:=IW w' tb mb (H8 n0 n)/\(∃D,GI w' gb n0 n D)/\(∀k,k<w.heap.size->k≠mb->w'.heap[k]?=w.heap[k]?)/\w.heap.size<=w'.heap.size/\w'.os=w.os/\w'.tape=w.tape/\w'.output=w.output/\gb<w'.heap.size/\w.heap.size<=gb
theorem GQ.alloc{tb mb:Nat}(h:GQ w tb mb gb n0 n w')(o:Obj):GQ w tb mb gb n0 n (w'.alloc o):=by obtain⟨a,⟨D,b⟩,c,m,d,f,g,i,j⟩:=h;exact⟨a.keep (k_ a.lt.1) (k_ a.lt.2),⟨D,b.keep (k_ i)⟩,fun k l e=>(k_ x8).trans (c k l e),r7,d,f,g,r7,j⟩
theorem GQ.next{tb mb:Nat}(c:n0.length<=1000)(h:GQ w tb mb gb n0 n w')(hi:oF[n]?=some nm)(q:mb<w.heap.size)(r:tb<w.heap.size):Q2 50 #[Q0 tb,.string ⟨nm.toArray⟩] w' fun e a=>∃i:Nat,e=.returned (Q1 i)/\∃d,(Instr.mapUpdate 110 (.map (some gb)) (.int .i64 (i:Int)) (NJ n)).run prog a=.ok () d/\GQ w tb mb gb n0 (n+1) d/\∀k,w.heap.size<=k->k<w'.heap.size->k≠gb->a.heap[k]?=w'.heap[k]? := by obtain⟨s,⟨D,t⟩,u,J,v,y,z,A,B⟩:=h;refine(num_at w' tb mb n n0 c nm s hi).mono (fun e a ⟨C,j,b⟩=>⟨_,C,?_⟩);have l:a.heap[gb]?=w'.heap[gb]? := b.block gb A (fun e=>by have:=i_ e;omega);obtain⟨d,E,F,f⟩:=(t.keep l).store c hi;have m:∀k,k<a.heap.size->k≠gb->d.heap[k]?=a.heap[k]? := fun k g e=>f.block k g (fun x=>e (i_ x));have p:∀k,k<w'.heap.size->k≠mb->a.heap[k]?=w'.heap[k]? := fun k g e=>b.block k g (fun x=>e (i_ x));have G:=b.size;have H:=f.size;refine⟨d,E,⟨j.keep (m tb (j.lt.1) x8) (m mb (j.lt.2) x8),⟨_,F⟩,fun k g e=>?_,x8,f.os.trans (b.os.trans v),f.tape.trans (b.tape.trans y),f.output.trans (b.output.trans z),x8,B⟩,fun k I o _=>p k o x8⟩;rw [m k x8 x8,p k x8 e];exact u k g e
end
end Go.Proofs.YtbgghmjmcapmlaaGreatDoor
