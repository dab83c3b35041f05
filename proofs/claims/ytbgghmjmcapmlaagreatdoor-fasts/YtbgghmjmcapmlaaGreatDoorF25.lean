import Derived.Test.YtbgghmjmcapmlaaGreatDoorF23
import Derived.Test.YtbgghmjmcapmlaaGreatDoorF24
import Derived.Test.YtbgghmjmcapmlaaGreatDoorF21
import Derived.Deep.SlicePairs
import Derived.WideShapes
import Derived.ChangeMaps5
import Derived.Test.YtbgghmjmcapmlaaGreatDoorRows
import Derived.OpenShut
import Derived.ChangeSame
import Derived.FnData
import Derived.ReadAgain
import Derived.Leaving
import Derived.Conc.HoldsTime
import Derived.ProofKit
import Derived.LaidMore
import Derived.LaidHandle
import Derived.Stop.Joined
import Derived.Stop.LaidErr
namespace Go.Proofs.YtbgghmjmcapmlaaGreatDoor
set_option maxHeartbeats 4000000
set_option maxRecDepth 100000
open Go.Proofs.Tryz
open Pl (PV PW PS PF AE FK AL A8)
theorem zJ6{P:Prop}(h:P:=by
 have q:Hid ((wr.alloc (.cells #[.string s,Q1 n] FG)).ownsRow w.heap.size FG 2 u5 k (((ins.take k).map (jT fuel)).flatMap iL)):=r.2.alloc _;have P:=(show Hid (∀(d:World)(o:Obj)(l a:Nat),d.ownsRow w.heap.size FG 2 (.slice (some ⟨l,0,none⟩) (k+1) a) (k+1) (((ins.take k).map (jT fuel)).flatMap iL++[.string s,Q1 n])->((wr.alloc (.cells #[.string s,Q1 n] FG)).alloc o).grownBy d u5.ownBlock->Q3 w d/\d.ownsRow w.heap.size FG 2 (.slice (some ⟨l,0,none⟩) (k+1) a) (k+1) (((ins.take (k+1)).map (jT fuel)).flatMap iL)) from fun d o l a J K=>m n _ d l a f (I _ o) r7 J K)
 clear m f u r;go_wp2_with (first | (at_builtin;refine wpList_append_lies _ rfl _ _ 22 rfl w.heap.size 29 M (.agg #[.string ⟨#[]⟩,Q1 0]) 2 24 underlying22 A B C D rfl w8 u5 k _ rfl (q.alloc _) ⟨wr.heap.size+1,0,none⟩ 1 1 [.string s,Q1 n] rfl rfl (World.news_of_block (cs:=#[.string s,Q1 n]) (t:=29) (fr:=(0,0)) (kM wr _ _)) (fun x f=>by simp at f;rcases f with rfl | rfl<;>rfl) w8 o6 x8 r7 (wr.heap.size+2) w9 ?_;intro T y d c b z _))
 go_roundw
 case rel=>exact⟨k+1,x8,k7,P d _ _ _ c b⟩
 case measure=>simp [intOf];omega):P:=h
theorem zJ7{P:Prop}(h:P:=by refine⟨rfl,c,?_,B4.AA (cM w _)⟩;show FP _ _ _ _ _ _ _ _ _ _ _ (l++[]) _;rw [List.append_nil];exact i.later (cM w _)):P:=h
theorem zJ8{P:Prop}(h:P:=by
 rcases a with rfl | rfl | rfl | rfl
 ·rw [underlying22] at h;cases h
 ·rw [underlying29] at h;cases h
 ·rw [underlying9] at h;cases h
 ·rw [underlying3] at h;cases h):P:=h
theorem zJ9{P:Prop}(h:P:=by go_enter func11,ntmps11;go_wp2_with fail;go_ret;exact⟨rfl,rfl⟩):P:=h
section
open Go.RowKit
variable {w w' a b w0:World} {W:PW} {lo hi wb n t:Nat} {pv qv cv lv gv pv':Value} {qs cs:List Value} {c:Array Value} {S:PS}
def B4(w w':World):Prop:=∀(k:Nat)(cur:Array Value)(e:TypeId),e≠MG->e≠VR->w.heap[k]?=some (.cells cur e (0,0))->w'.heap[k]?=some (.cells cur e (0,0))
theorem B4.trans{c:World}(h:B4 a b)(k:B4 b c):B4 a c:=fun i d e f g j=>k i d e f g (h i d e f g j)
theorem B4.AA(h:Q3 w w'):B4 w w':=fun k _ _ _ _ a=>(h.block k (aB a)).trans a
theorem B4.ME(h:B4 w w'):CU (fun _=>True) w w':=fun k a e _ b c=>h k a e (by rcases b with rfl | rfl<;>decide) (by rcases b with rfl | rfl<;>decide) c
theorem FP.TT{l:List (PV×PV)}(h:FP w0 w wb W pv qv cv lv gv qs cs l pv')(b:∀k,k<w.heap.size->k≠wb->pv'.ownBlock≠some k->w'.heap[k]?=w.heap[k]?):B4 w w':=by intro k d e f g a;rw [b k (aB a) (fun e=>by subst e;exact f (aK a h.blk).2) (fun e=>by obtain⟨c,i⟩:=aN h.row k e;exact g (aK a i).2)];exact a
def LL(w0 w:World)(wb:Nat)(W:PW)(pv qv cv lv gv:Value)(qs cs:List Value)(l:List (PV×PV))(r:PV×List (PV×PV))(e:Ending)(w':World):Prop :=e=.returned (bT r.1)/\∃pv'',FP w0 w' wb W pv qv cv lv gv qs cs (l++r.2) pv''/\B4 w w'
def LK(w0:World)(wb:Nat)(W:PW)(pv qv cv lv gv:Value)(qs cs:List Value)(n:Nat):Prop :=
 ∀(w:World) (l:List (PV×PV)) (pv':Value) (dv:Value) (t:Pl.A9),FP w0 w wb W pv qv cv lv gv qs cs l pv'->AJ (fun _=>True) n w dv t->cL n t->W.pairs.length+l.length+(Pl.made n (W.pairs.length+l.length) t).2.length<=1000000000 ->
  Q2 40 #[Q0 wb,dv] w fun e w'=>LL w0 w wb W pv qv cv lv gv qs cs l (Pl.made n (W.pairs.length+l.length) t) e w'
theorem lK(y:World)(wb:Nat)(W:PW)(z A B C D:Value)(E cs:List Value)(n:Nat)(w:World)(l:List (PV×PV))(c:Value)(dv:Value)(t:Pl.A9)(g:FP y w wb W z A B C D E cs l c)(I:AJ (fun _=>True) (n+1) w dv t)(h:cL (n+1) t)(q:¬∃r,t=.agg r) :Q2 40 #[Q0 wb,dv] w fun e J=>LL y w wb W z A B C D E cs l (Pl.made (n+1) (W.pairs.length+l.length) t) e J:=by
 have i:=h_ g;obtain⟨b,rfl,_,K⟩:=I;have M:∀(o:Obj)(k d:Nat),k<w.heap.size->(w.alloc o).cell? ⟨k,d,none⟩=w.cell? ⟨k,d,none⟩:=fun o k d L=>(r_.alloc n_ o).cell (p:=⟨k,d,none⟩) L
 match t,K,h,q with
 | .lit (.int k m),⟨u,a,F⟩,h,_ =>
  obtain rfl:u=m:=F h;have f:=aB a;have G:w.cell? ⟨b,0,none⟩=some (.string ⟨#[110,117,109,98,101,114]⟩):=aA a 0;have j:w.cell? ⟨b,1,none⟩=some (Q1 u):=aA a 1;have H:w.cell? ⟨b,2,none⟩=some (.string ⟨#[]⟩):=aA a 2;clear a F h g;go_enter func40,ntmps40;go_wp2_with fail
  go_region
  all_goals
   go_wp2_with fail
   (try simp only [Exit.inBlock,Exit.then])
   refine bodyPost_ret (v:=bT (.num u)) ?_ rfl ?_
   ·rw [aO rfl];simp only [bT,AM,vK,vN,vS,kNu]
    go_simp
    try rfl
   ·exact zJ7
 | .lit (.bool x),a,_,_ =>
  have f:=aB a;have G:w.cell? ⟨b,0,none⟩=some (.string ⟨#[116,114,117,116,104]⟩):=aA a 0;have j:w.cell? ⟨b,1,none⟩=some (Q1 (if x then 1 else 0)):=aA a 1;have H:w.cell? ⟨b,2,none⟩=some (.string ⟨#[]⟩):=aA a 2;clear a g
  cases x with
  | true =>
   simp only [↓reduceIte] at j;go_enter func40,ntmps40;go_wp2_with fail
   go_region
   all_goals
    go_wp2_with fail
    (try simp only [Exit.inBlock,Exit.then])
    refine bodyPost_ret (v:=bT (.AT true)) ?_ rfl ?_
    ·rw [aO rfl];simp only [bT,AM,vK,vN,vS,F_]
     go_simp
     try rfl
    ·exact zJ7
  | false =>
   simp only [↓reduceIte,Bool.false_eq_true] at j;go_enter func40,ntmps40;go_wp2_with fail
   go_region
   all_goals
    go_wp2_with fail
    (try simp only [Exit.inBlock,Exit.then])
    refine bodyPost_ret (v:=bT (.AT false)) ?_ rfl ?_
    ·rw [aO rfl];simp only [bT,AM,vK,vN,vS,F_]
     go_simp
     try rfl
    ·exact zJ7
 | .lit (.string s),a,_,_ =>
  have f:=aB a;have G:w.cell? ⟨b,0,none⟩=some (.string ⟨#[110,97,109,101]⟩):=aA a 0;have j:w.cell? ⟨b,1,none⟩=some (Q1 0):=aA a 1;have H:w.cell? ⟨b,2,none⟩=some (.string ⟨s.toArray⟩):=aA a 2;clear a g;go_enter func40,ntmps40;go_wp2_with fail
  go_region
  all_goals
   go_wp2_with fail
   (try simp only [Exit.inBlock,Exit.then])
   refine bodyPost_ret (v:=bT (.name s)) ?_ rfl ?_
   ·rw [aO rfl];simp only [bT,AM,vK,vN,vS,kNa]
    go_simp
    try rfl
   ·exact zJ7
 | .agg r,_,_,q=>exact absurd ⟨r,rfl⟩ q
theorem eU(f:Nat->Pl.A9->PV×List (PV×PV))(b:Nat)(x:Pl.A9)(r:List Pl.A9):AL f b (x::r)=((.pair (b+(AL f b r).2.length+(f (b+(AL f b r).2.length) x).2.length)),(AL f b r).2++(f (b+(AL f b r).2.length) x).2++[((f (b+(AL f b r).2.length) x).1,(AL f b r).1)]):=rfl
theorem gC(f:Nat->Pl.A9->PV×List (PV×PV))(b:Nat):∀(k:Nat)(a:List Pl.A9),(AL f b (a.drop k)).2.length<=(AL f b a).2.length
 | 0,a=>by simp
 | k+1,[]=>by simp
 | k+1,x::r=>by have:=gC f b k r;rw [List.drop_succ_cons,eU];simp only [a_];omega
theorem uI{l:List (PV×PV)}(h:FP w0 w wb W pv qv cv lv gv qs cs l pv'){R:Nat}(a:w0.heap.size<=R)(b:w.heap[R]?=some (.cells c TV (0,0)))(x y z:Value):FP w0 (((w.setCell ⟨R,0,none⟩ x).setCell ⟨R,1,none⟩ y).setCell ⟨R,2,none⟩ z) wb W pv qv cv lv gv qs cs l pv' :=
 h.grown (grown3 w R x y z) (fun k d=>by
  obtain rfl:=i_ d
  exact⟨a,fun e=>by obtain⟨g,f⟩:=aN h.row R e;exact absurd (aK b f).2 w8⟩)
theorem lJ(s:World)(wb:Nat)(W:PW)(t y z A B:Value)(C cs:List Value)(n:Nat)(hM:LK s wb W t y z A B C cs n)(w:World)(l:List (PV×PV))(M:Value)(dv:Value)(c:List Pl.A9)(hJ:FP s w wb W t y z A B C cs l M)(hR:AJ (fun _=>True) (n+1) w dv (.agg c))(hB:cL (n+1) (.agg c))(hn:W.pairs.length+l.length+(Pl.made (n+1) (W.pairs.length+l.length) (.agg c)).2.length<=1000000000) :Q2 40 #[Q0 wb,dv] w fun e w'=>LL s w wb W t y z A B C cs l (Pl.made (n+1) (W.pairs.length+l.length) (.agg c)) e w':=by
 have HJ:Hid (FP s w wb W t y z A B C cs l M):=hJ;have aw:Hid (LK s wb W t y z A B C cs n):=hM;have HR:Hid (AJ (fun _=>True) (n+1) w dv (.agg c)):=hR;have ax:Hid (∀x∈c,cL n x):=hB;have bx:=hJ.IV.size;obtain⟨b,bt,us,rfl,bz,ck,c3,hS,N,hA⟩:=hR.list;have HA:Hid (∀(i:Nat)(u:Value)(x:Tr),us[i]?=some u->c[i]?=some x->AJ (fun _=>True) n w u x):=hA;have bv:=hR.short;obtain⟨ao,ca,rfl,aa,D⟩:=hS;rw [N] at c3 aa;have HC:Hid (∀(i:Nat)(u:Value),us[i]?=some u->∃g a,ao=some ⟨g,a,none⟩/\g<w.heap.size/\w.cell? ⟨g,a+i,none⟩=some u):=D;have cb:Hid (us.length=c.length):=N;have cc:w.cell? ⟨b,0,none⟩=some (.string ⟨#[108,105,115,116]⟩):=ck;have qA:∀(o:Obj)(k a:Nat),k<w.heap.size->(w.alloc o).cell? ⟨k,a,none⟩=w.cell? ⟨k,a,none⟩:=fun o k a Y=>(r_.alloc n_ o).cell (p:=⟨k,a,none⟩) Y;have qB:∀(o Z:Obj)(k a:Nat),k<w.heap.size->((w.alloc o).alloc Z).cell? ⟨k,a,none⟩=w.cell? ⟨k,a,none⟩:=fun o Z k a Y=>((r_.alloc n_ o).alloc w9 Z).cell (p:=⟨k,a,none⟩) Y;have ab:Hid (∀o1 Z:Obj,Q3 w ((w.alloc o1).alloc Z)):=fun o1 Z=>b_.alloc w9 _;have ac:Hid (W.pairs.length+l.length+(AL (Pl.made n) (W.pairs.length+l.length) c).2.length<=1000000000):=hn;clear hJ hM hR hB ck N hA D hn;go_enter func40,ntmps40;go_wp2_with fail
 go_loopw [6,7] (fun iv _ wr=>∃(k:Nat)(E:Value),k<=c.length/\iv=.int .i64 ((k:Int)-1)/\Hid (FP s wr wb W t y z A B C cs (l++(AL (Pl.made n) (W.pairs.length+l.length) (c.drop k)).2) E)/\Hid (wr.heap[w.heap.size+1]?=some (.cells #[AM (vK (AL (Pl.made n) (W.pairs.length+l.length) (c.drop k)).1),Q1 (vN (AL (Pl.made n) (W.pairs.length+l.length) (c.drop k)).1),AM (vS (AL (Pl.made n) (W.pairs.length+l.length) (c.drop k)).1)] TV (0,0)))/\Hid (wr.heap[w.heap.size]?=some (.cells #[.string ⟨#[]⟩,Q1 0,.string ⟨#[]⟩] TV (0,0)))/\Hid (B4 w wr)) (fun iv _ _=>(intOf iv+1).toNat)
 case atStart =>
  refine⟨c.length,M,n_,k7,?_,?_,?_,B4.AA (ab _ _)⟩
  ·show FP _ _ _ _ _ _ _ _ _ _ _ _ _;rw [List.drop_length];show FP _ _ _ _ _ _ _ _ _ _ _ (l++[]) _;rw [List.append_nil];exact HJ.later (ab _ _)
  ·show _=_;rw [List.drop_length];have:=heap_alloc_new (w.alloc (.cells #[.string ⟨#[]⟩,Q1 0,.string ⟨#[]⟩] 81)) (.cells #[.string ⟨#[101,109,112,116,121]⟩,Q1 0,.string ⟨#[]⟩] 81);rw [show(w.alloc (.cells #[.string ⟨#[]⟩,Q1 0,.string ⟨#[]⟩] 81)).heap.size=w.heap.size+1 from by simp] at this;exact this
  ·exact(k_ w9).trans (heap_alloc_new w _)
 case round =>
  obtain⟨k,E,Y,rfl,ad,O,P,G⟩:=hrel;by_cases ay:k=0
  ·subst ay;have Q:=ad.out;have r:=O.out;rw [List.drop_zero] at Q r;have az:Hid _:=r;have ba:Hid (FP s wr wb W t y z A B C cs (l++(Pl.made (n+1) (W.pairs.length+l.length) (.agg c)).2) E):=Q;have v0:wr.cell? ⟨w.heap.size+1,0,none⟩=some (.string ⟨(vK (AL (Pl.made n) (W.pairs.length+l.length) c).1).toArray⟩):=aA r 0;have v1:wr.cell? ⟨w.heap.size+1,1,none⟩=some (Q1 (vN (AL (Pl.made n) (W.pairs.length+l.length) c).1)):=aA r 1;have v2:wr.cell? ⟨w.heap.size+1,2,none⟩=some (.string ⟨(vS (AL (Pl.made n) (W.pairs.length+l.length) c).1).toArray⟩):=aA r 2;obtain⟨r0,r1,r2,f0,f1,f2,s1,s2,s3⟩:=FA P;clear Q r;have bb:Hid (bT (Pl.made (n+1) (W.pairs.length+l.length) (.agg c)).1=.agg #[.string ⟨(vK (AL (Pl.made n) (W.pairs.length+l.length) c).1).toArray⟩,Q1 (vN (AL (Pl.made n) (W.pairs.length+l.length) c).1),.string ⟨(vS (AL (Pl.made n) (W.pairs.length+l.length) c).1).toArray⟩]):=rfl;clear az O;generalize vK (AL (Pl.made n) (W.pairs.length+l.length) c).1=kk at *;generalize vN (AL (Pl.made n) (W.pairs.length+l.length) c).1=nn at *;generalize vS (AL (Pl.made n) (W.pairs.length+l.length) c).1=ss at *;go_wp2_with fail
   (try simp only [Exit.inBlock,Exit.then])
   refine bodyPost_ret (v:=.agg #[.string ⟨kk.toArray⟩,Q1 nn,.string ⟨ss.toArray⟩]) ?_ rfl ?_
   ·rw [aO rfl]
    go_simp
   ·refine⟨by rw [bb.out],E,uI ba x8 P _ _ _,?_⟩;intro j H e h1 h2 hb;have hj:=aB hb;rw [(grown3 wr w.heap.size _ _ _).block j (aB (G j H e h1 h2 hb)) r7];exact G.out j H e h1 h2 hb
  ·obtain⟨j,rfl⟩:∃j,k=j+1:=⟨k-1,x8⟩
   have ae:=AJ.keep G.ME _ _ _ HR;obtain⟨b',bc,bd,e',af,_,be,bf,ag,ah⟩:=ae.list;simp only [Value.pointer.injEq,o_,Addr.mk.injEq,and_true] at e';subst e';obtain⟨cd,bw,rfl,R,m⟩:=bf;rw [ag] at be R;obtain⟨u,hu⟩:∃u,bd[j]?=some u:=⟨_,g_ x8⟩
   obtain⟨x,hx⟩:∃x,c[j]?=some x:=⟨_,g_ x8⟩
   obtain⟨g,a,e1,hg,hc⟩:=m j u hu;subst e1;have S:=ah j u x hu hx;obtain⟨bu,rfl⟩:=S.ptr;have bg:Hid (AJ (fun _=>True) n wr (Q0 bu) x):=S;have ai:c.drop j=x::c.drop (j+1):=by have hj:=(s_ hx).1;rw [<- (s_ hx).2,List.getElem_cons_drop]
   have aj:Hid (c.drop j=x::c.drop (j+1)):=ai;have I:=gC (Pl.made n) (W.pairs.length+l.length) j c;rw [ai,eU] at I;simp only [a_,c_,z_] at I;have bh:=ac.out;generalize bi:AL (Pl.made n) (W.pairs.length+l.length) (c.drop (j+1))=d at *;have ak:Hid (AL (Pl.made n) (W.pairs.length+l.length) (c.drop (j+1))=d):=bi;have al:W.pairs.length+(l++d.2).length=W.pairs.length+l.length+d.2.length:=by rw [a_];omega
   have bj:=(show Hid _ from aw.out wr (l++d.2) E _ x ad bg (ax x (q_ hx)) (by rw [al];omega))
   have bk:Hid (W.pairs.length+(l++d.2).length=W.pairs.length+l.length+d.2.length):=al;have bl:Hid (d.2.length+(Pl.made n (W.pairs.length+l.length+d.2.length) x).2.length+1<=(AL (Pl.made n) (W.pairs.length+l.length) c).2.length):=I;have ce:(j:Int)<(c.length:Int):=by omega
   have bm:(((j+1:Nat):Int)-1)=(j:Int):=by omega
   rw [bm];clear ae af ah m hu hx S;go_wp2_with fail;refine Calls.mono bj ?_;rintro e f ⟨rfl,T,U,J⟩;rw [bk.out] at U ⊢;generalize am:Pl.made n (W.pairs.length+l.length+d.2.length) x=h at *;have L:Hid (Pl.made n (W.pairs.length+l.length+d.2.length) x=h):=am;clear am;have an:Hid (FP s f wb W t y z A B C cs (l++d.2++h.2) T):=U;have bn:Hid (B4 wr f):=J;have F:Hid (f.heap[w.heap.size+1]?=some (.cells #[AM (vK d.1),Q1 (vN d.1),AM (vS d.1)] TV (0,0))):=J _ _ _ w8 w8 O;have bo:Hid (f.heap[w.heap.size]?=some (.cells #[.string ⟨#[]⟩,Q1 0,.string ⟨#[]⟩] TV (0,0))):=J _ _ _ w8 w8 P;have cf:=aB F;have qC:∀(o:Obj)(k a:Nat),k<f.heap.size->(f.alloc o).cell? ⟨k,a,none⟩=f.cell? ⟨k,a,none⟩:=fun o k a Y=>(r_.alloc n_ o).cell (p:=⟨k,a,none⟩) Y;have v0:f.cell? ⟨w.heap.size+1,0,none⟩=some (.string ⟨(vK d.1).toArray⟩):=aA F 0;have v1:f.cell? ⟨w.heap.size+1,1,none⟩=some (Q1 (vN d.1)):=aA F 1;have v2:f.cell? ⟨w.heap.size+1,2,none⟩=some (.string ⟨(vS d.1).toArray⟩):=aA F 2;have bp:Hid (∀o:Obj,Q2 56 #[Q0 wb,.agg #[.string ⟨(vK h.1).toArray⟩,Q1 (vN h.1),.string ⟨(vS h.1).toArray⟩],.agg #[.string ⟨(vK d.1).toArray⟩,Q1 (vN d.1),.string ⟨(vS d.1).toArray⟩]] (f.alloc o) fun e w'=>e=.returned (bT (.pair (W.pairs.length+(l++d.2++h.2).length)))/\∃ap,FP s w' wb W t y z A B C cs (l++d.2++h.2++[(h.1,d.1)]) ap/\(f.alloc o).heap.size<=w'.heap.size/\(∀k,k<(f.alloc o).heap.size->k≠wb->T.ownBlock≠some k->w'.heap[k]?=(f.alloc o).heap[k]?)):=fun o =>uC s (f.alloc o) wb W t y z A B C cs (l++d.2++h.2) T h.1 d.1 (an.later b_) (by have h1:=bl.out;have h2:=ac.out;simp only [a_];omega);clear U J I bh;unfold bT AM;go_wp2_with fail;refine Calls.mono (bp _) ?_;rintro e w3 ⟨rfl,aq,ar,bq,au⟩;have V:Hid (∀o:Obj,B4 f (f.alloc o)):=fun o=>B4.AA (r_.alloc n_ o);have K:=(FP.TT (an.later b_) au)
   have X:Hid (w3.heap[w.heap.size+1]?=some (.cells #[AM (vK d.1),Q1 (vN d.1),AM (vS d.1)] TV (0,0))):=K _ _ _ w8 w8 (V _ _ _ _ w8 w8 F);have av:Hid (w3.heap[w.heap.size]?=some (.cells #[.string ⟨#[]⟩,Q1 0,.string ⟨#[]⟩] TV (0,0))):=K _ _ _ w8 w8 (V _ _ _ _ w8 w8 bo);have br:Hid (B4 w w3):=G.trans (bn.trans ((V _).trans K));have bs:Hid (FP s w3 wb W t y z A B C cs (l++d.2++h.2++[(h.1,d.1)]) aq):=ar;obtain⟨r0,r1,r2,f0,f1,f2,s1,s2,s3⟩:=FA X;clear ar bq au K v0 v1 v2 qC;simp only [aggP];go_wp2_with fail;refine⟨⟨j,aq,x8,rfl,?_,?_,?_,?_⟩,zL5⟩
   ·show FP _ _ _ _ _ _ _ _ _ _ _ _ _;rw [aj.out,eU,ak.out,L.out];have:=uI bs (show s.heap.size<=w.heap.size+1 from by omega) X (.string ⟨#[112,97,105,114]⟩) (.int .i64 ((W.pairs.length:Int)+((l.length:Int)+((d.2.length:Int)+(h.2.length:Int))))) (.string ⟨#[]⟩);simpa [List.append_assoc] using this
   ·show _=_;rw [aj.out,eU,ak.out,L.out];refine(aD (aD (aD X 0 _) 1 _) 2 _).trans ?_;have e:((W.pairs.length:Int)+((l.length:Int)+((d.2.length:Int)+(h.2.length:Int))))=((W.pairs.length+l.length+d.2.length+h.2.length:Nat):Int):=by omega
    rw [e];rfl
   ·exact((grown3 w3 (w.heap.size+1) _ _ _).block w.heap.size (aB av) w9).trans av
   ·intro q H e h1 h2 hb;have hq:=aB hb;have h3:=br.out q H e h1 h2 hb;exact((grown3 w3 (w.heap.size+1) _ _ _).block q (aB h3) r7).trans h3
theorem lL(b:World)(wb:Nat)(W:PW)(c d e f g:Value)(h cs:List Value):∀n,LK b wb W c d e f g h cs n
 | 0=>fun w l a j t _ i=>i.elim
 | n+1=>fun w l a j t m i o q=>by
  by_cases p:∃k,t=.agg k
  ·obtain⟨k,rfl⟩:=p;exact lJ b wb W c d e f g h cs n (lL b wb W c d e f g h cs n) w l a j k m i o q
  ·exact lK b wb W c d e f g h cs n w l a j t m i o p
theorem mE{ok:Q5}:∀(n m:Nat)(v:Value)(t:Tr),AJ ok n w v t->cL n t->cL m t
 | 0,_,_,_,h,_=>h.elim
 | _+1,0,_,_,_,_=>trivial
 | n+1,m+1,v,t,h,a=>by
  cases t with
  | agg g =>intro x c;obtain⟨b,_,_,d,e,_,_,j,k,_⟩:=h;obtain⟨i,f⟩:=List.mem_iff_getElem?.1 c;have l:e.length=g.length:=j.1.trans (Nat.mul_one _);have o:=(s_ f).1;exact mE n m _ x (k i e[i] x (g_ x8) f) (a x c)
  | lit x=>cases x<;>first | trivial | exact a
  | _=>trivial
def C6(lo hi:Nat)(w w':World):Prop:=∀(k:Nat)(cur:Array Value)(e:TypeId),RH e->(e=NE->k<lo\/hi<=k)->w.heap[k]?=some (.cells cur e (0,0))->w'.heap[k]?=some (.cells cur e (0,0))
theorem C6.refl(lo hi:Nat)(w:World):C6 lo hi w w:=fun _ _ _ _ _ h=>h
theorem C6.trans{c:World}(h:C6 lo hi a b)(k:C6 lo hi b c):C6 lo hi a c:=fun i d e f g j=>k i d e f g (h i d e f g j)
theorem C6.mono{lo' hi':Nat}(h:C6 lo hi a b)(j:lo'<=lo)(k:hi<=hi'):C6 lo' hi' a b:=fun i c e d f g=>h i c e d (fun x=>(f x).imp (fun y=>by omega) (fun y=>by omega)) g
theorem C6.x(h:C6 lo hi a b):E1 lo hi a b:=fun i c e d f g=>h i c e d (fun x=>f (.inl x)) g
theorem C6.row{v:Value}{xs:List Value}{T:TypeId}(f:C6 lo hi w w')(i:RH T)(c:T≠NE)(h:w.ownsRow 0 T 1 v n xs):w'.ownsRow 0 T 1 v n xs:=by
 refine⟨h.1,?_⟩;rcases h.2 with c | ⟨g,d,a,rfl,j,k,b⟩
 ·exact .inl c
 ·exact .inr ⟨g,d,a,rfl,j,f g a T i (fun e=>absurd e c) k,b⟩
theorem B4.keepS(h:B4 w w'):C6 lo hi w w':=fun k a e hi _ b=>h k a e zM6 zM6 b
def VF(X:World->Prop)(w:World)(wb:Nat)(W:PW)(pv qv cv lv gv:Value)(qs cs:List Value)(l:List (PV×PV))(pv':Value):Prop:=∃w0,X w0/\FP w0 w wb W pv qv cv lv gv qs cs l pv'
def setV(w:World)(b:Nat)(x:PV):World:=((w.setCell ⟨b,5,none⟩ (AM (vK x))).setCell ⟨b,6,none⟩ (.int .i64 (vN x))).setCell ⟨b,7,none⟩ (AM (vS x))
def Snp(X:World->Prop)(lo0 hi0 wb:Nat)(W:PW)(pv qv cv lv gv:Value)(qs cs:List Value):Prop:=∀(w:World) (l:List (PV×PV)) (pv':Value) (b:Nat) (nm:AE) (dv kv nv c1 c2:Value) (x:PV),VF X w wb W pv qv cv lv gv qs cs l pv'->lo0<=b->b<hi0->w.heap[b]?=some (.cells #[AM (H5 .const),AM nm,dv,kv,nv,AM [],c1,c2] NE (0,0))->VF X (setV w b x) wb W pv qv cv lv gv qs cs l pv'
def ED(X:World->Prop)(w:World)(wb:Nat)(W:PW)(pv qv cv lv gv:Value)(qs cs:List Value)(l:List (PV×PV))(n lo hi:Nat)(v:Value)(r:PF×List (PV×PV))(e:Ending)(w':World):Prop :=e=.returned (.tuple #[])/\∃pv'',VF X w' wb W pv qv cv lv gv qs cs (l++r.2) pv''/\AX true n w' lo hi v r.1/\C6 lo hi w w'
def QV(X:World->Prop)(lo0 hi0 wb:Nat)(W:PW)(pv qv cv lv gv:Value)(qs cs:List Value)(n:Nat):Prop :=
 ∀(w:World) (l:List (PV×PV)) (pv':Value) (lo hi:Nat) (v:Value) (f:PF),VF X w wb W pv qv cv lv gv qs cs l pv'->AX false n w lo hi v f->lo0<=lo->hi<=hi0->W.pairs.length+l.length+(Pl.settle f (W.pairs.length+l.length)).2.length<=1000000000 ->
  Q2 26 #[Q0 wb,v] w fun e w'=>ED X w wb W pv qv cv lv gv qs cs l n lo hi v (Pl.settle f (W.pairs.length+l.length)) e w'
theorem FP.IF{l:List (PV×PV)}(h:FP w0 w wb W pv qv cv lv gv qs cs l pv'){b:Nat}(d:w.heap[b]?=some (.cells c NE (0,0)))(a:w0.heap.size<=b)(o:Nat)(x:Value):FP w0 (w.setCell ⟨b,o,none⟩ x) wb W pv qv cv lv gv qs cs l pv' :=
 h.grown (aE w b o x) (fun k f=>by
  obtain rfl:=i_ f;refine⟨a,fun e=>?_⟩;obtain⟨i,g⟩:=aN h.row _ e
  exact absurd (aK d g).2 w8)
theorem C6.set{b:Nat}(i:lo<=b)(j:b<hi)(f:w.heap[b]?=some (.cells c NE (0,0)))(o:Nat)(x:Value):C6 lo hi w (w.setCell ⟨b,o,none⟩ x):=fun k g e _ h d=>by
 by_cases a:k=b
 ·subst a;obtain⟨_,rfl⟩:=aK d f;have:=h rfl;omega
 ·rw [Below.heap_setCell _ _ _ _ (fun e=>a a6)];exact d
theorem gM:∀(a:List PF)(B k:Nat)(x:PF),a[k]?=some x->(Pl.AK a B).1[k]?=some (Pl.settle x (B+(Pl.AK (a.take k) B).2.length)).1/\(Pl.AK (a.take (k+1)) B).2=(Pl.AK (a.take k) B).2++(Pl.settle x (B+(Pl.AK (a.take k) B).2.length)).2
 | [],_,_,_,h=>by simp at h
 | y::a,B,0,x,h=>by simp only [List.getElem?_cons_zero,o_] at h;subst h;simp [Pl.BO,Pl.BV]
 | y::a,B,k+1,x,h=>by rw [List.getElem?_cons_succ] at h;obtain⟨b,c⟩:=gM a (B+(Pl.settle y B).2.length) k x h;simp only [List.take_succ_cons,Pl.BO,List.getElem?_cons_succ,a_];rw [<- Nat.add_assoc,c];exact⟨b,w9⟩
theorem kQ:∀(a:List PF)(B k:Nat),(Pl.AK (a.take k) B).2.length<=(Pl.AK a B).2.length
 | [],_,_=>by simp
 | y::a,B,0=>by simp [Pl.BV]
 | y::a,B,k+1=>by have:=kQ a (B+(Pl.settle y B).2.length) k;simp only [List.take_succ_cons,Pl.BO,a_];omega
structure I4(X:World->Prop)(w wr:World)(wb:Nat)(W:PW)(pv qv cv lv gv:Value)(qs cs:List Value)(l:List (PV×PV))(n lo b:Nat)(iv:List (Nat×Nat))(us:List Value)(ks:List PF)(j:Nat)(pj:Value):Prop where
 prj:VF X wr wb W pv qv cv lv gv qs cs (l++(Pl.AK (ks.take j) (W.pairs.length+l.length)).2) pj
 keep:C6 lo b w wr
 did:∀(i:Nat)(p:Nat×Nat)(u:Value)(x:PF),i<j->iv[i]?=some p->us[i]?=some u->(Pl.AK ks (W.pairs.length+l.length)).1[i]?=some x->AX true n wr p.1 p.2 u x
 todo:∀(i:Nat)(p:Nat×Nat)(u:Value)(x:PF),j<=i->iv[i]?=some p->us[i]?=some u->ks[i]?=some x->AX false n wr p.1 p.2 u x
theorem I4.next{X:World->Prop}{wr w2:World}{l:List (PV×PV)}{b:Nat}{d:List (Nat×Nat)}{us:List Value}{ks:List PF}{j:Nat}{pj:Value}(h:I4 X w wr wb W pv qv cv lv gv qs cs l n lo b d us ks j pj)
  (g:∀(i:Nat)(p:Nat×Nat),d[i]?=some p->lo<=p.1/\p.2<=b) (a:∀(i k:Nat)(p q:Nat×Nat),i<k->d[i]?=some p->d[k]?=some q->p.2<=q.1) {p:Nat×Nat} {u:Value} {x:PF} (hp:d[j]?=some p) (t:us[j]?=some u) (z:ks[j]?=some x) {pj2:Value}
  (r:VF X w2 wb W pv qv cv lv gv qs cs (l++(Pl.AK (ks.take j) (W.pairs.length+l.length)).2++(Pl.settle x (W.pairs.length+(l++(Pl.AK (ks.take j) (W.pairs.length+l.length)).2).length)).2) pj2)
  (s:AX true n w2 p.1 p.2 u (Pl.settle x (W.pairs.length+(l++(Pl.AK (ks.take j) (W.pairs.length+l.length)).2).length)).1) (m:C6 p.1 p.2 wr w2):I4 X w w2 wb W pv qv cv lv gv qs cs l n lo b d us ks (j+1) pj2:=by
 obtain⟨A,B⟩:=gM ks (W.pairs.length+l.length) j x z;have C:W.pairs.length+(l++(Pl.AK (ks.take j) (W.pairs.length+l.length)).2).length=W.pairs.length+l.length+(Pl.AK (ks.take j) (W.pairs.length+l.length)).2.length:=by rw [a_,Nat.add_assoc]
 rw [C] at r s;obtain⟨D,E⟩:=g j p hp;refine⟨by rw [B,<-List.append_assoc];exact r,h.keep.trans (m.mono D E),fun i q v y F c e f=>?_,fun i q v y F c e f=>?_⟩
 ·by_cases o:i=j
  ·subst o;rw [hp] at c;obtain rfl:=i_ c;rw [t] at e;obtain rfl:=i_ e;rw [A] at f;obtain rfl:=i_ f;exact s
  ·exact AX.keep m.x n _ _ _ _ (.inl (a i j q p x8 c hp)) (h.did i q v y x8 c e f)
 ·exact AX.keep m.x n _ _ _ _ (.inr (a j i p q x8 hp c)) (h.todo i q v y x8 c e f)
theorem kB(X:World->Prop)(M N wb:Nat)(W:PW)(C D E F G:Value)(H cs:List Value)(n:Nat)(ih:QV X M N wb W C D E F G H cs n)(w:World)(l:List (PV×PV))(O:Value)(lo hi:Nat)(v:Value)(k:FK)(nm:AE)(d:Tr)(px:PV)(a:List PF)(ns:List AE)(hk:k≠.const)(hJ:VF X w wb W C D E F G H cs l O)(hU:AX false (n+1) w lo hi v (.mk k nm d px a ns))(T:M<=lo)(ar:hi<=N)(hz:W.pairs.length+l.length+(Pl.settle (.mk k nm d px a ns) (W.pairs.length+l.length)).2.length<=1000000000) :Q2 26 #[Q0 wb,v] w fun e w'=>ED X w wb W C D E F G H cs l (n+1) lo hi v (Pl.settle (.mk k nm d px a ns) (W.pairs.length+l.length)) e w':=by
 rw [Pl.BC _ _ _ _ _ _ _ hk] at hz ⊢;obtain⟨b,dv,kv,nv,c0,c1,c2,y,rfl,ae,af,hb,U,c,⟨z,A,P,Q,o⟩,q,V,f,ag,Y,Z,aa⟩:=hU;have ck:w.cell? ⟨b,0,none⟩=some (.string ⟨(H5 k).toArray⟩):=aA hb 0;have ah:(H5 k==[99,111,110,115,116])=false:=by cases k<;>first | rfl | exact absurd rfl hk
 have c3:w.cell? ⟨b,3,none⟩=some kv:=aA hb 3;have HB:=h_ hb;have B:Hid (∀(i:Nat)(p:Nat×Nat),A[i]?=some p->lo<=p.1/\p.2<=b):=fun i p m=>by have R:=(s_ m).1;obtain⟨q1,q2,_⟩:=Q i p y[i] a[i] m (g_ x8) (g_ x8);exact⟨q1,q2⟩
 have ab:=h_ o;have I:=h_ c;have ai:Hid (I4 X w w wb W C D E F G H cs l n lo b A y a 0 O):=show I4 _ _ _ _ _ _ _ _ _ _ _ _ _ _ _ _ _ _ _ _ _ from ⟨by simp only [List.take_zero,Pl.BV,List.append_nil];exact hJ,C6.refl _ _ _,fun i p u x hi=>by omega,fun i p u x _ m J K=>(Q i p u x m J K).2.2⟩;have ac:Hid (∀(wr:World)(L:Value),I4 X w wr wb W C D E F G H cs l n lo b A y a a.length L->ED X w wb W C D E F G H cs l (n+1) lo hi (Q0 b) (.mk k nm d px (Pl.AK a (W.pairs.length+l.length)).1 ns,(Pl.AK a (W.pairs.length+l.length)).2) (.returned (.tuple #[])) wr):=fun wr L h=>by have r:=Pl.G9 a (W.pairs.length+l.length);have aj:C6 lo hi w wr:=h.keep.mono n_ x8;refine⟨rfl,L,by have:=h.prj;rw [List.take_length] at this;exact this,⟨b,dv,kv,nv,c0,c1,c2,y,rfl,ae,af,h.keep b _ _ (.inr (.inr (.inl rfl))) (fun _=>.inr n_) HB,fun e=>absurd e hk,by rw [r];exact h.keep.row (.inr (.inr (.inr (.inl rfl)))) w8 c,⟨by rw [r];exact z,A,by rw [r];exact P,fun i p u x m J K=>?_,o⟩,h.keep.row (.inr (.inr (.inr (.inr (.inl rfl))))) w8 q,fun e=>absurd e hk,by rw [r];exact f,by rw [r];exact ag,Y,Z,aa⟩,aj⟩;have R:=(s_ m).1;obtain⟨q1,q2⟩:=B.out i p m;exact⟨q1,q2,h.did i p u x x8 m J K⟩
 have ak:=h_ ih;have HZ:Hid (W.pairs.length+l.length+(Pl.AK a (W.pairs.length+l.length)).2.length<=1000000000/\(M<=lo/\b<=N)/\y.length=a.length/\A.length=a.length):=⟨hz,⟨T,x8⟩,z,P⟩
 obtain⟨ao,al,rfl,ad,_⟩:=bC c;rw [z] at c3 ad I HB;generalize am:H5 k=kk at ck ah;clear am hJ hb U c Q o q V f Z aa hz ih z P Y;go_enter func26,ntmps26;go_wp2_with fail
 go_loopw [5] (fun i wr=>∃(j:Nat)(L:Value),j<=a.length/\i=.int .i64 j/\Hid (I4 X w wr wb W C D E F G H cs l n lo b A y a j L)) (fun i _=>a.length-(intOf i).toNat)
 case atStart=>exact⟨0,O,Nat.zero_le _,rfl,ai⟩
 case round =>
  obtain⟨j,L,hj,rfl,S⟩:=hrel;have aw:wr.cell? ⟨b,3,none⟩=some (.slice ao a.length al):=aA (S.keep b _ _ (.inr (.inr (.inl rfl))) (fun _=>.inr n_) HB) 3;by_cases R:j<a.length
  ·obtain⟨_,_,an,ap⟩:=HZ.out;obtain⟨u,J⟩:∃u,y[j]?=some u:=⟨y[j],g_ x8⟩
   obtain⟨x,K⟩:∃x,a[j]?=some x:=⟨a[j],g_ R⟩
   obtain⟨p,m⟩:∃p,A[j]?=some p:=⟨A[j],g_ x8⟩
   obtain⟨ax,au,e,_,s⟩:=bC (S.keep.row (.inr (.inr (.inr (.inl rfl)))) w8 I);obtain⟨g,ay,rfl,hg,hc⟩:=s j u J;simp only [Value.slice.injEq] at e;obtain⟨rfl,_,_⟩:=e;have hR:=S.todo j p u x n_ m J K;obtain⟨e1,e2⟩:=gM a (W.pairs.length+l.length) j x K
   have t:Hid (Q2 26 #[Q0 wb,u] wr fun e w'=>ED X wr wb W C D E F G H cs (l++(Pl.AK (a.take j) (W.pairs.length+l.length)).2) n p.1 p.2 u (Pl.settle x (W.pairs.length+(l++(Pl.AK (a.take j) (W.pairs.length+l.length)).2).length)) e w') :=
    ak.out wr _ L p.1 p.2 u x S.prj hR (t_ HZ.2.1.1 (B j p m).1) (t_ (B j p m).2 HZ.2.1.2) (by
     have h1:=HZ.1;have h2:=kQ a (W.pairs.length+l.length) (j+1);rw [e2,a_] at h2;rw [show W.pairs.length+(l++(Pl.AK (a.take j) (W.pairs.length+l.length)).2).length=W.pairs.length+l.length+(Pl.AK (a.take j) (W.pairs.length+l.length)).2.length from by rw [a_,Nat.add_assoc]]
     omega)
   have HX:Hid (A[j]?=some p/\y[j]?=some u/\a[j]?=some x):=⟨m,J,K⟩
   have av:(j:Int)<(a.length:Int):=by omega
   obtain⟨bu,rfl⟩:=hR.ptr;clear hR e1 e2 m J K s an ap;go_wp2_with fail;refine Calls.mono t ?_;rintro e w2 ⟨rfl,aq,k1,k2,k3⟩;have HN:=h_ (S.next B ab HX.1 HX.2.1 HX.2.2 k1 k2 k3);clear k1 k2 k3 t;go_wp2_with fail
   go_roundw
   case rel=>exact⟨j+1,aq,x8,k7,HN⟩
   case measure=>simp [intOf];omega
  ·obtain rfl:j=a.length:=by omega
   go_wp2_with fail
   go_end0
   exact ac.out wr L S
theorem tW{X:World->Prop}{lo0 hi0:Nat}{w2:World}{l:List (PV×PV)}{b:Nat}{nm:AE}{d:Tr}{ns:List AE}{dv kv nv c0 c1 c2:Value}(i:Snp X lo0 hi0 wb W pv qv cv lv gv qs cs)(t:lo0<=lo)(u:hi<=hi0)(a:lo<=b)(c:b<hi)(j:c0=AM [])(A:w.heap[b]?=some (.cells #[AM (H5 .const),AM nm,dv,kv,nv,c0,c1,c2] NE (0,0)))(f:w.ownsRow 0 LN 1 kv 0 [])(e:w.ownsRow 0 TS 1 nv ns.length (ns.map AM))(g:∃m,m<=1000/\AJ (fun _=>True) m w dv d/\cL m d/\uG d)(k:ns.length<=1000)(o:fI lo hi kv)(p:fI lo hi nv){r:PV×List (PV×PV)}{pj:Value}(B:VF X w2 wb W pv qv cv lv gv qs cs (l++r.2) pj)(v:B4 w w2) :ED X w wb W pv qv cv lv gv qs cs l (n+1) lo hi (Q0 b) (.mk .const nm d r.1 [] ns,r.2) (.returned (.tuple #[])) (setV w2 b r.1)/\(setV w2 b r.1).cell? ⟨b,3,none⟩=some kv:=by have q:w2.heap[b]?=some (.cells #[AM (H5 .const),AM nm,dv,kv,nv,c0,c1,c2] NE (0,0)):=v b _ _ w8 w8 A;have x:=aD q 5 (AM (vK r.1));have y:=aD x 6 (.int .i64 (vN r.1));have z:=aD y 7 (AM (vS r.1));have h:C6 lo hi w (setV w2 b r.1):=((v.keepS.trans (C6.set a c q 5 _)).trans (C6.set a c x 6 _)).trans (C6.set a c y 7 _);refine⟨⟨rfl,pj,i w2 _ pj b nm dv kv nv c1 c2 r.1 B x8 x8 (by rw [<- j];exact q),⟨b,dv,kv,nv,_,_,_,[],rfl,a,c,z,fun _=>rfl,h.row (.inr (.inr (.inr (.inl rfl)))) w8 f,CA.nil _ _ _,h.row (.inr (.inr (.inr (.inr (.inl rfl))))) w8 e,fun _=>g.elim fun m s=>⟨m,s.1,AJ.keep h.x.ME _ _ _ s.2.1,s.2.2⟩,rfl,w9,k,o,p⟩,h⟩,?_⟩;exact aA z 3
theorem iX(X:World->Prop)(Q R wb:Nat)(W:PW)(y z A B C:Value)(D cs:List Value)(ac:Snp X Q R wb W y z A B C D cs)(n:Nat)(w:World)(l:List (PV×PV))(L:Value)(lo hi:Nat)(v:Value)(nm:AE)(d:Tr)(px:PV)(ks:List PF)(ns:List AE)(hJ:VF X w wb W y z A B C D cs l L)(hU:AX false (n+1) w lo hi v (.mk .const nm d px ks ns))(S:Q<=lo)(T:hi<=R)(hz:W.pairs.length+l.length+(Pl.settle (.mk .const nm d px ks ns) (W.pairs.length+l.length)).2.length<=1000000000) :Q2 26 #[Q0 wb,v] w fun e w'=>ED X w wb W y z A B C D cs l (n+1) lo hi v (Pl.settle (.mk .const nm d px ks ns) (W.pairs.length+l.length)) e w':=by
 rw [Pl.CI] at hz ⊢;obtain⟨b,dv,kv,nv,c0,c1,c2,us,rfl,ad,ae,U,I,p,⟨V,_⟩,q,r,k,af,Y,f,Z⟩:=hU;obtain rfl:ks=[]:=e_ k;obtain rfl:us=[]:=e_ V;have ck:w.cell? ⟨b,0,none⟩=some (.string ⟨#[99,111,110,115,116]⟩):=aA U 0;have an:w.cell? ⟨b,2,none⟩=some dv:=aA U 2;have o:Hid (∀(c:World)(P:Value),VF X c wb W y z A B C D cs (l++(Pl.made 1000 (W.pairs.length+l.length) (Pl.quoted d)).2) P->B4 w c->ED X w wb W y z A B C D cs l (n+1) lo hi (Q0 b) (.mk .const nm d (Pl.made 1000 (W.pairs.length+l.length) (Pl.quoted d)).1 [] ns,(Pl.made 1000 (W.pairs.length+l.length) (Pl.quoted d)).2) (.returned (.tuple #[])) (setV c b (Pl.made 1000 (W.pairs.length+l.length) (Pl.quoted d)).1)/\(setV c b (Pl.made 1000 (W.pairs.length+l.length) (Pl.quoted d)).1).cell? ⟨b,3,none⟩=some kv):=fun c P h1 h2=>tW ac S T ad ae I.1 U p q (r rfl) Y f Z h1 h2;obtain⟨m,hm,J,E,hQ⟩:=r rfl;have HB:=h_ U;have HJ:=h_ hJ;have HZ:=h_ hz;obtain⟨ao,F,rfl,aj,_⟩:=bC p;simp only [z_] at o HB;unfold setV AM at o;clear hJ hz U I p q r k af Y f Z V;by_cases G:∃ts,d=.agg ts
 ·obtain⟨ts,rfl⟩:=G
  obtain⟨a,x,rfl⟩:∃a x,ts=[a,x]:=by
   match ts,hQ with
   | [a,x],_=>exact⟨a,x,rfl⟩
  obtain⟨m',rfl⟩:∃m',m=m'+1:=by
   cases m with
   | zero=>exact J.elim
   | succ m'=>exact⟨m',rfl⟩
  obtain⟨bd,ak,vs,rfl,ag,H,ah,hS,aa,hA⟩:=J.list
  obtain⟨y0,K,rfl⟩:∃y0 K,vs=[y0,K]:=by
   match vs,aa with
   | [y0,K],_=>exact⟨y0,K,rfl⟩
  obtain⟨g,ap,al,rfl,M,hg,z0,zs⟩:=hS.cell0;have z1:=zs 0 K rfl;simp only [Nat.zero_add,c_,z_] at z1 ah M;have f:=hA 1 K x rfl rfl;have N:Hid (AJ (fun _=>True) 1000 w K x):=AJ.up _ _ _ _ x8 f;have O:Hid (cL 1000 x):=mE m' 1000 K x f (E x w9);have am:w.cell? ⟨bd,0,none⟩=some (.string ⟨#[108,105,115,116]⟩):=H;obtain⟨aq,rfl⟩:=f.ptr;clear J E hQ hA hS aa zs f H;go_enter func26,ntmps26;go_wp2_with fail;obtain⟨w0,s,t⟩:=HJ.out;refine(lL w0 wb W y z A B C D cs 1000 w l L _ _ t N O HZ).mono ?_;rintro e c ⟨rfl,P,u,h⟩;have j:c.heap[b]?=some (.cells #[AM (H5 .const),AM nm,Q0 bd,.slice ao 0 F,nv,c0,c1,c2] NE (0,0)):=h b _ _ w8 w8 HB;have HP:Hid _:=o.out c P ⟨w0,s,u⟩ h;have x5:c.cell? ⟨b,5,none⟩=some c0:=aA j 5;have x6:c.cell? ⟨b,6,none⟩=some c1:=aA j 6;have x7:c.cell? ⟨b,7,none⟩=some c2:=aA j 7;have f5:c.frozen? ⟨b,5,none⟩=false:=aF j 5;have f6:c.frozen? ⟨b,6,none⟩=false:=aF j 6;have f7:c.frozen? ⟨b,7,none⟩=false:=aF j 7;clear u h j t s;unfold bT AM;go_wp2_with fail
  go_loopw [5] (fun i wr=>i=.int .i64 0/\wr.cell? ⟨b,3,none⟩=some (.slice ao 0 F)/\Hid (ED X w wb W y z A B C D cs l (n+1) lo hi (Q0 b) (.mk .const nm (.agg [a,x]) (Pl.made 1000 (W.pairs.length+l.length) (Pl.quoted (.agg [a,x]))).1 [] ns,(Pl.made 1000 (W.pairs.length+l.length) (Pl.quoted (.agg [a,x]))).2) (.returned (.tuple #[])) wr)) (fun _ _=>0)
  case atStart=>exact⟨rfl,HP.2,HP.1⟩
  case round =>
   obtain⟨rfl,ai,HE⟩:=hrel;go_wp2_with fail
   go_end0
   exact HE
 ·have hq:Pl.quoted d=d:=by
   unfold Pl.quoted;split
   ·exact absurd ⟨_,rfl⟩ G
   ·rfl
  obtain⟨kk,ab,ar⟩:=J.KQ G;have N:Hid (AJ (fun _=>True) 1000 w dv (Pl.quoted d)):=show AJ _ _ _ _ _ from by rw [hq];exact AJ.up _ _ _ _ hm J
  have O:Hid (cL 1000 (Pl.quoted d)):=show cL _ _ from by rw [hq];exact mE m 1000 dv d J E
  obtain⟨bd,rfl,ag,H,_⟩:=J.EB;rw [ab] at H;clear J E hQ G hq ab;go_enter func26,ntmps26;go_wp2_with fail;obtain⟨w0,s,t⟩:=HJ.out;refine(lL w0 wb W y z A B C D cs 1000 w l L _ _ t N O HZ).mono ?_;rintro e c ⟨rfl,P,u,h⟩;have j:c.heap[b]?=some (.cells #[AM (H5 .const),AM nm,Q0 bd,.slice ao 0 F,nv,c0,c1,c2] NE (0,0)):=h b _ _ w8 w8 HB;have HP:Hid _:=o.out c P ⟨w0,s,u⟩ h;have x5:c.cell? ⟨b,5,none⟩=some c0:=aA j 5;have x6:c.cell? ⟨b,6,none⟩=some c1:=aA j 6;have x7:c.cell? ⟨b,7,none⟩=some c2:=aA j 7;have f5:c.frozen? ⟨b,5,none⟩=false:=aF j 5;have f6:c.frozen? ⟨b,6,none⟩=false:=aF j 6;have f7:c.frozen? ⟨b,7,none⟩=false:=aF j 7;clear u h j t s;unfold bT AM;go_wp2_with fail
  go_loopw [5] (fun i wr=>i=.int .i64 0/\wr.cell? ⟨b,3,none⟩=some (.slice ao 0 F)/\Hid (ED X w wb W y z A B C D cs l (n+1) lo hi (Q0 b) (.mk .const nm d (Pl.made 1000 (W.pairs.length+l.length) (Pl.quoted d)).1 [] ns,(Pl.made 1000 (W.pairs.length+l.length) (Pl.quoted d)).2) (.returned (.tuple #[])) wr)) (fun _ _=>0)
  case atStart=>exact⟨rfl,HP.2,HP.1⟩
  case round =>
   obtain⟨rfl,ai,HE⟩:=hrel;go_wp2_with fail
   go_end0
   exact HE
theorem mS(X:World->Prop)(a b wb:Nat)(W:PW)(c e g i j:Value)(m cs:List Value)(o:Snp X a b wb W c e g i j m cs):∀n,QV X a b wb W c e g i j m cs n
 | 0=>fun _ _ _ _ _ _ _ _ h=>h.elim
 | n+1=>fun w l p t u v f x r y q s=>by
  match f,r,s with
  | .mk k z d A B C,r,s =>
   by_cases D:k=.const
   ·subst D;exact iX X a b wb W c e g i j m cs o n w l p t u v z d A B C x r y q s
   ·exact kB X a b wb W c e g i j m cs n (mS X a b wb W c e g i j m cs o n) w l p t u v k z d A B C D x r y q s
theorem WR(f:World)(c wb:Nat)(W:PW)(g h i j k:Value)(m cs:List Value):Snp (fun x=>x=f) f.heap.size c wb W g h i j k m cs:=fun w l n b o p q r s t x d a _ e=>by obtain⟨_,rfl,d⟩:=d;exact⟨_,rfl,((d.IF e a 5 _).IF (aD e 5 _) a 6 _).IF (aD (aD e 5 _) 6 _) a 7 _⟩
def NG(w0:World)(wb:Nat)(M:Q5)(W:PW)(f:PF)(e:Ending)(w':World):Prop :=∃xb M',e=.returned (Q0 xb)/\RW w' wb M' (Pl.AR W f)/\RS M' w' xb (Pl.AV W f)/\Stp M w0 M' w'/\w0.heap.size<=xb
theorem nV(d:w.heap[wb]?=some (.cells c MG (0,0)))(o:Nat)(x:Value):E1 lo hi w (w.setCell ⟨wb,o,none⟩ x):=fun k f e hi _ b=>by
 by_cases a:k=wb
 ·subst a;obtain⟨_,rfl⟩:=aK b d;rcases hi with h | h | h | h | h | h<;>exact absurd h w8
 ·rw [Below.heap_setCell _ _ _ _ (fun e=>a a6)];exact b
theorem tG(h:Q3 w0 w){T:TypeId}(b:w0.heap[wb]?=some (.cells c T (0,0)))(o:Nat)(x:Value):Below (w0.setCell ⟨wb,o,none⟩ x).heap.size (w0.setCell ⟨wb,o,none⟩ x) (w.setCell ⟨wb,o,none⟩ x):=by
 have f:(w0.setCell ⟨wb,o,none⟩ x).heap.size=w0.heap.size:=by simp [World.setCell]
 refine⟨h.os,h.tape,h.output,zM9,fun k d=>?_⟩;rw [f] at d;by_cases a:k=wb
 ·subst a;rw [aD b o x,aD ((h.block k (aB b)).trans b) o x]
 ·rw [Below.heap_setCell _ _ _ _ (fun e=>a a6),Below.heap_setCell _ _ _ _ (fun e=>a a6)];exact h.block k d
theorem xP(a w:World)(wb:Nat)(M:Q5)(W:PW)(f:PF)(b m:Nat)(N:RW a wb M W)(A:Q3 a w)(G:AX false m w a.heap.size w.heap.size (Q0 b) f)(H:W.pairs.length+(Pl.settle f W.pairs.length).2.length<=1000000000) :Q2 13 #[Q0 wb,Q0 b] w fun e B=>NG a wb M W f e B:=by
 obtain⟨s,i,j,k,l,y,z,rfl,q⟩:=N;have h:=q.blk;have d:=(A.block wb (aB h)).trans h;have U:w.cell? ⟨wb,5,none⟩=some (AM W.out):=aA d 5;have V:w.frozen? ⟨wb,5,none⟩=false:=aF d 5;obtain⟨n,p⟩:=q.MP [] w9;have C:(a.setCell ⟨wb,5,none⟩ (AM [])).heap.size=a.heap.size:=by simp [World.setCell]
 have t:=FP.start n (tG A h 5 (AM []));have u:AX false m (w.setCell ⟨wb,5,none⟩ (AM [])) a.heap.size w.heap.size (Q0 b) f:=AX.keep (nV (lo:=0) (hi:=0) d 5 _) m _ _ _ _ (.inr (Nat.zero_le _)) G;have I:Hid (Q2 26 #[Q0 wb,Q0 b] (w.setCell ⟨wb,5,none⟩ (.string ⟨#[]⟩)) fun e B=>ED (fun x=>x=a.setCell ⟨wb,5,none⟩ (AM [])) (w.setCell ⟨wb,5,none⟩ (AM [])) wb {W with out:=[]} s i j k l y z [] m a.heap.size w.heap.size (Q0 b) (Pl.settle f (W.pairs.length+0)) e B) :=mS _ _ w.heap.size wb {W with out:=[]} s i j k l y z (WR (a.setCell ⟨wb,5,none⟩ (AM [])) _ _ _ _ _ _ _ _ _ _) m _ [] s a.heap.size w.heap.size _ f ⟨_,rfl,t⟩ u x8 n_ H;have D:=h_ p
 have v:Hid (∀(g:World)(c:Value)(o:Obj),FP (a.setCell ⟨wb,5,none⟩ (AM [])) g wb {W with out:=[]} s i j k l y z ([]++(Pl.settle f (W.pairs.length+0)).2) c->AX true m g a.heap.size w.heap.size (Q0 b) (Pl.settle f (W.pairs.length+0)).1->o=.cells #[Q0 b,.slice none 0 0,AM [],Q1 0,AM [],.pointer none] JL (0,0)->NG a wb (CQ wb [s,i,j,k,l]) W f (.returned (Q0 g.heap.size)) (g.alloc o)):=fun g c o O P Q=>by
  obtain⟨R,J⟩:=O.done;have r:Q3 g (g.alloc o):=b_;have E:RW g wb (CQ wb [c,i,j,k,l]) (Pl.AR W f):=⟨c,i,j,k,l,y,z,rfl,R⟩
  have S:=J.size;refine⟨g.heap.size,CQ wb [c,i,j,k,l],rfl,E.later r,⟨_,_,_,_,_,_,by rw [Q];exact heap_alloc_new _ _,⟨m,AX.settled m _ _ _ _ (P.later r)⟩,?_,rfl⟩,(D.trans J).trans (Stp.AA r),x8⟩;exact⟨rfl,none,0,rfl,n_,.inl rfl⟩
 clear q h d n p t u G H A C;go_enter func13,ntmps13;go_wp2_with fail;refine Calls.mono I ?_;rintro e g ⟨rfl,c,⟨_,rfl,K⟩,L,T⟩;have F:Hid (∀o,o=Obj.cells #[Q0 b,.slice none 0 0,AM [],Q1 0,AM [],.pointer none] JL (0,0)->NG a wb (CQ wb [s,i,j,k,l]) W f (.returned (Q0 g.heap.size)) (g.alloc o)):=fun o=>v.out g c o K L;clear K L T I;go_wp2_with fail;go_ret;exact F.out _ rfl
theorem t7(n:Int)(w:World):Q2 11 #[Q1 n] w fun e c=>e=.returned (.bool (Pl.over n))/\w=c:=by
 by_cases a:n<0
 ·rw [show Pl.over n=true from by simp [Pl.over,a]];exact zJ9
 ·by_cases b:1000000<n
  ·rw [show Pl.over n=true from by simp [Pl.over,b]];exact zJ9
  ·rw [show Pl.over n=false from by simp [Pl.over,a,b]];exact zJ9
def VK(n:Nat)(W:PW)(S:PS):Prop:=(∃Inv,QX Inv/\Inv n W S)/\(A8 n W S).e<=100/\L2 (A8 n W S).W/\((A8 n W S).e=0->(A8 n W S).S.form=none/\BL (A8 n W S).W (A8 n W S).S.val)
theorem R5(h:WW W t)(a:t<=1000000000):L2 W:=⟨h.KV,h.CH,by have:=h.EX;omega⟩
theorem aOE(a:WW W t)(b:SW W S t)(c:t+310*n<=100000000):VK n W S:=by obtain⟨f,d,e⟩:=mA n W S t a b;exact⟨⟨QC,s7,t,c,a,b⟩,x8,R5 d x8,e⟩
def InvC(_:Nat)(W:PW)(S:PS):Prop:=∃t,t<=100000000/\WW W t/\SW W S t/\S.AB=[]/\∀f,S.form=some f->f.k=.const
theorem s8:QX InvC:=by
 intro n W S h d;obtain⟨t,e,i,b,j,l⟩:=h
 cases a:S.form with
 | none=>unfold Pl.PS.ended at d;simp [a,j] at d
 | some f =>
  have k:=l f a;have c:Pl.step W S=⟨0,W,S.A1 f.v⟩:=by unfold Pl.step;rw [a];dsimp only;rw [k]
  rw [c];exact⟨WB i b e,w9,fun _=>⟨t,e,i,b.A1 ((b.form f a).val k),j,fun g m=>by cases m⟩⟩
theorem kW{f:PF}(d:S.AB=[])(a:S.form=some f)(e:f.k=.const):A8 (n+1) W S=⟨0,W,S.A1 f.v⟩:=by
 have b:Pl.step W S=⟨0,W,S.A1 f.v⟩:=by unfold Pl.step;rw [a];dsimp only;rw [e]
 have g:S.ended=false:=by unfold Pl.PS.ended;simp [a]
 have c:(S.A1 f.v).ended=true:=by unfold Pl.PS.ended Pl.PS.A1;simp [d]
 unfold A8;rw [if_neg (by simp [g])];dsimp only;rw [b];dsimp only;rw [if_pos rfl]
 cases n<;>(unfold A8;rw [if_pos c])
theorem tE{f:PF}(c:WW W t)(d:SW W S t)(i:t<=100000000)(e:S.AB=[])(a:S.form=some f)(b:f.k=.const):VK (n+1) W S:=by refine⟨⟨InvC,s8,t,i,c,d,e,fun g h=>by rw [a] at h;obtain rfl:=i_ h;exact b⟩,?_⟩;rw [kW e a b];exact⟨w9,R5 c x8,fun _=>⟨rfl,(d.form f a).val b⟩⟩
theorem iT:(Pl.BQ [55]).map (fun f=>decide (f.k=.const))=some true:=by decide
theorem p8(f:PF)(b:Nat):(Pl.settle f b).1.k=f.k:=by
 cases f with
 | mk k c d v e g =>
  by_cases a:k=.const
  ·subst a;rw [Pl.CI];rfl
  ·rw [Pl.BC _ _ _ _ _ _ _ a];rfl
theorem Tryz.YL:(prog.info? 46).map (fun i=>(i.zero,i.size,i.bytes))=some (some (.agg #[Q1 0,.string ⟨#[]⟩,.string ⟨#[]⟩]),3,40):=by kernel_rfl
def B5(i:Q8×Int):AE×Int:=(i.1.data.toList,i.2)
def F8(w:World)(v:Value)(ins:List (Q8×Int)):Prop:=∃ao cap,v=.slice ao ins.length cap/\ins.length<=cap/\∀(k:Nat)(i:Q8×Int),ins[k]?=some i->∃g,ao=some ⟨g,0,none⟩/\g<w.heap.size/\w.cell? ⟨g,k*2,none⟩=some (.string i.1)/\w.cell? ⟨g,k*2+1,none⟩=some (Q1 i.2)
end
open Pl (PO)
section
open Go.RowKit Go.Lib Go.Maps
theorem set3at{X:World}{R o:Nat}{cur:Array Value}{T:TypeId}(h:X.heap[R]?=some (.cells cur T (0,0)))(c:o+2<cur.size):∃d e f,X.cell? ⟨R,o,none⟩=some d/\X.frozen? ⟨R,o,none⟩=false /\
  (∀a:Value,(X.setCell ⟨R,o,none⟩ a).cell? ⟨R,o+1,none⟩=some e/\(X.setCell ⟨R,o,none⟩ a).frozen? ⟨R,o+1,none⟩=false) /\
  (∀a b:Value,((X.setCell ⟨R,o,none⟩ a).setCell ⟨R,o+1,none⟩ b).cell? ⟨R,o+2,none⟩=some f/\((X.setCell ⟨R,o,none⟩ a).setCell ⟨R,o+1,none⟩ b).frozen? ⟨R,o+2,none⟩=false):=by
 refine⟨cur[o]' x8,cur[o+1]' x8,cur[o+2]'c,(aA h o).trans (Array.getElem?_eq_getElem _),aF h o,fun a=>⟨?_,aF (aD h o a) _⟩,fun a b=>⟨?_,aF (aD (aD h o a) (o+1) b) _⟩⟩
 ·rw [aA (aD h o a) (o+1),Array.getElem?_setIfInBounds,if_neg x8];exact Array.getElem?_eq_getElem _
 ·rw [aA (aD (aD h o a) (o+1) b) (o+2),Array.getElem?_setIfInBounds,if_neg x8,Array.getElem?_setIfInBounds,if_neg x8];exact Array.getElem?_eq_getElem _
def RE(w:World)(R o:Nat)(po:PO):World:=((w.setCell ⟨R,o,none⟩ (.int .i64 (po.code:Int))).setCell ⟨R,o+1,none⟩ (.string ⟨po.out.toArray⟩)).setCell ⟨R,o+2,none⟩ (.string ⟨po.val.toArray⟩)
end
section
open Go.RowKit
def FG:TypeId:=29
theorem Tryz.YM:(prog.info? 29).map (fun i=>(i.zero,i.size,i.bytes))=some (some (.agg #[.string ⟨#[]⟩,Q1 0]),2,24):=by kernel_rfl
def iL(i:Q8×Int):List Value:=[.string i.1,Q1 i.2]
def jT(fuel:Int)(i:Q8×Int):Q8×Int:=if fuel<i.2/\i.2<=1000000 then(i.1,fuel) else i
def eD(fuel:Int)(ins:List (Q8×Int)):List (Q8×Int):=(ins.take 60).map (jT fuel)++[(⟨#[55]⟩,1000000)]
def JF(w:World)(v:Value)(ins:List (Q8×Int)):Prop:=∃ao cap,v=.slice ao ins.length cap/\ins.length<=cap/\∀(k:Nat)(i:Q8×Int),ins[k]?=some i->∃g off,ao=some ⟨g,off,none⟩/\g<w.heap.size/\w.cell? ⟨g,off+k*2,none⟩=some (.string i.1)/\w.cell? ⟨g,off+k*2+1,none⟩=some (Q1 i.2)
theorem XG(w:World)(v:Value)(fuel:Int)(ins:List (Q8×Int))(hS:JF w v ins)(aa:ins.length<=maxLen) :Q2 4 #[v,Q1 fuel] w fun e w'=>∃rv,e=.returned rv/\Q3 w w'/\w'.ownsRow w.heap.size FG 2 rv (eD fuel ins).length ((eD fuel ins).flatMap iL):=by
 obtain⟨M,A,B,C,D⟩:=info_parts Tryz.YM;obtain⟨ao,ad,rfl,ab,E⟩:=hS;have HC:=h_ E;clear E;go_enter func4,ntmps4;go_wp2_with fail
 go_loopw [5,6] (fun sv i wr=>∃k:Nat,(k<=ins.length/\k<=60)/\i=.int .i64 k/\Hid (Q3 w wr/\wr.ownsRow w.heap.size FG 2 sv k (((ins.take k).map (jT fuel)).flatMap iL))) (fun _ i _=>ins.length-(intOf i).toNat)
 case atStart=>exact⟨0,⟨Nat.zero_le _,Nat.zero_le _⟩,rfl,⟨r_,World.ownsRow_nil _ _ _ _⟩⟩
 case round =>
  obtain⟨k,⟨hk,ac⟩,rfl,r⟩:=hrel;by_cases V:k<ins.length/\k<60
  ·obtain⟨i,W⟩:∃i,ins[k]?=some i:=⟨ins[k],g_ V.1⟩
   obtain⟨g,F,rfl,hg,N,O⟩:=HC.out k i W;obtain⟨s,n⟩:=i;have c0:wr.cell? ⟨g,F+k*2,none⟩=some (.string s):=(r.1.cell (p:=⟨g,F+k*2,none⟩) hg).trans N;have c1:wr.cell? ⟨g,F+k*2+1,none⟩=some (Q1 n):=(r.1.cell (p:=⟨g,F+k*2+1,none⟩) hg).trans O;have X:(k:Int)<(ins.length:Int):=by omega
   have ae:(k:Int)<60:=by omega
   have H:=r.1.size;have u:=r.2.lt;have m:∀(x:Int)(Q d:World)(l a:Nat),jT fuel (s,n)=(s,x)->Q3 w Q->w.heap.size<=Q.heap.size->d.ownsRow w.heap.size FG 2 (.slice (some ⟨l,0,none⟩) (k+1) a) (k+1) (((ins.take k).map (jT fuel)).flatMap iL++[.string s,Q1 x])->Q.grownBy d u5.ownBlock->Q3 w d/\d.ownsRow w.heap.size FG 2 (.slice (some ⟨l,0,none⟩) (k+1) a) (k+1) (((ins.take (k+1)).map (jT fuel)).flatMap iL):=fun x Q d l a f Y Z R S=>by refine⟨Y.grown S Z (fun j hj=>(u j hj).1),?_⟩;rw [List.take_add_one,W,Option.toList_some,List.map_append,List.flatMap_append,List.map_cons,List.map_nil,f];simpa [iL] using R
   have I:Hid (∀o1 o:Obj,Q3 w ((wr.alloc o1).alloc o)):=fun o1 o=>(r.1.alloc H o1).alloc r7 o;clear W N O;by_cases R:fuel<n
   ·by_cases S:n<=1000000
    ·have f:jT fuel (s,n)=(s,fuel):=by unfold jT;rw [if_pos ⟨R,S⟩]
     have q:Hid ((wr.alloc (.cells #[.string s,Q1 fuel] FG)).ownsRow w.heap.size FG 2 u5 k (((ins.take k).map (jT fuel)).flatMap iL)):=r.2.alloc _;have P:=(show Hid (∀(d:World)(o:Obj)(l a:Nat),d.ownsRow w.heap.size FG 2 (.slice (some ⟨l,0,none⟩) (k+1) a) (k+1) (((ins.take k).map (jT fuel)).flatMap iL++[.string s,Q1 fuel])->((wr.alloc (.cells #[.string s,Q1 fuel] FG)).alloc o).grownBy d u5.ownBlock->Q3 w d/\d.ownsRow w.heap.size FG 2 (.slice (some ⟨l,0,none⟩) (k+1) a) (k+1) (((ins.take (k+1)).map (jT fuel)).flatMap iL)) from fun d o l a J K=>m fuel _ d l a f (I _ o) r7 J K)
     clear m f u r;go_wp2_with (first | (at_builtin;refine wpList_append_lies _ rfl _ _ 22 rfl w.heap.size 29 M (.agg #[.string ⟨#[]⟩,Q1 0]) 2 24 underlying22 A B C D rfl w8 u5 k _ rfl (q.alloc _) ⟨wr.heap.size+1,0,none⟩ 1 1 [.string s,Q1 fuel] rfl rfl (World.news_of_block (cs:=#[.string s,Q1 fuel]) (t:=29) (fr:=(0,0)) (kM wr _ _)) (fun x f=>by simp at f;rcases f with rfl | rfl<;>rfl) w8 o6 x8 r7 (wr.heap.size+2) w9 ?_;intro T y d c b z _))
     go_roundw
     case rel=>exact⟨k+1,x8,k7,P d _ _ _ c b⟩
     case measure=>simp [intOf];omega
    ·have f:jT fuel (s,n)=(s,n):=by unfold jT;rw [if_neg (fun h=>S h.2)]
     exact zJ6
   ·have f:jT fuel (s,n)=(s,n):=by unfold jT;rw [if_neg (fun h=>R h.1)]
    exact zJ6
  ·have L:ins.take k=ins.take 60:=by
    by_cases h6:k=60
    ·rw [h6]
    ·rw [List.take_of_length_le x8,List.take_of_length_le x8]
   have G:(eD fuel ins).length=k+1:=by unfold eD;rw [<- L];simp;omega
   have u:=r.2.lt;have H:=r.1.size
   have U:=(show Hid (∀(d:World)(o:Obj)(l a:Nat),d.ownsRow w.heap.size FG 2 (.slice (some ⟨l,0,none⟩) (k+1) a) (k+1) (((ins.take k).map (jT fuel)).flatMap iL++[.string ⟨#[55]⟩,Q1 1000000])->(wr.alloc o).grownBy d u5.ownBlock->Q3 w d/\d.ownsRow w.heap.size FG 2 (.slice (some ⟨l,0,none⟩) (k+1) a) (eD fuel ins).length ((eD fuel ins).flatMap iL)) from fun d o l a J K=>by
    refine⟨(r.1.alloc H o).grown K r7 (fun j hj=>(u j hj).1),?_⟩;rw [G];unfold eD;rw [<- L,List.flatMap_append]
    simpa [iL] using J)
   have q:=h_ r.2;clear L G u r;by_cases X:k<ins.length
   ·obtain rfl:k=60:=by omega
    have af:((60:Nat):Int)<(ins.length:Int):=by omega
    go_wp2_with (first | (at_builtin;refine wpList_append_lies _ rfl _ _ 22 rfl w.heap.size 29 M (.agg #[.string ⟨#[]⟩,Q1 0]) 2 24 underlying22 A B C D rfl w8 u5 (60) _ rfl (q.alloc _) ⟨wr.heap.size,0,none⟩ 1 1 [.string ⟨#[55]⟩,Q1 1000000] rfl rfl (World.news_of_block (cs:=#[.string ⟨#[55]⟩,Q1 1000000]) (t:=29) (fr:=(0,0)) (heap_alloc_new wr _)) (fun x f=>by simp at f;rcases f with rfl | rfl<;>rfl) w8 (by unfold maxLen at *;omega) x8 r7 (wr.heap.size+1) w9 ?_;intro T y d c b z _))
    go_ret;exact⟨_,rfl,(U d _ _ _ c b).1,(U d _ _ _ c b).2⟩
   ·obtain rfl:k=ins.length:=by omega
    go_wp2_with (first | (at_builtin;refine wpList_append_lies _ rfl _ _ 22 rfl w.heap.size 29 M (.agg #[.string ⟨#[]⟩,Q1 0]) 2 24 underlying22 A B C D rfl w8 u5 (ins.length) _ rfl (q.alloc _) ⟨wr.heap.size,0,none⟩ 1 1 [.string ⟨#[55]⟩,Q1 1000000] rfl rfl (World.news_of_block (cs:=#[.string ⟨#[55]⟩,Q1 1000000]) (t:=29) (fr:=(0,0)) (heap_alloc_new wr _)) (fun x f=>by simp at f;rcases f with rfl | rfl<;>rfl) w8 (by unfold maxLen at *;omega) x8 r7 (wr.heap.size+1) w9 ?_;intro T y d c b z _))
    go_ret;exact⟨_,rfl,(U d _ _ _ c b).1,(U d _ _ _ c b).2⟩
def KB(w:World)(v:Value)(l:List PO):Prop:=∃ao cap,v=.slice ao l.length cap/\l.length<=cap/\∀(k:Nat)(o:PO),l[k]?=some o->∃g,ao=some ⟨g,0,none⟩/\g<w.heap.size/\w.cell? ⟨g,k*3,none⟩=some (Q1 o.code)/\w.cell? ⟨g,k*3+1,none⟩=some (.string ⟨o.out.toArray⟩)/\w.cell? ⟨g,k*3+2,none⟩=some (.string ⟨o.val.toArray⟩)
end
section
open Go.RowKit Go.Lib Go.Maps
theorem scr_in{w:World}{v:Value}{ins:List (Q8×Int)}(h:F8 w v ins):JF w v ins:=by obtain⟨b,a,e,c,d⟩:=h;refine⟨b,a,e,c,fun k i f=>?_⟩;obtain⟨g,j,l,m,n⟩:=d k i f;exact⟨g,0,j,l,by rw [Nat.zero_add];exact m,by rw [Nat.zero_add];exact n⟩
theorem WV{w w1:World}{M M1:Q5}{v:Value}{ins:List (Q8×Int)}(h:JF w v ins)(f:Stp M w M1 w1)(q:∀k,¬M k):JF w1 v ins/\(ins≠[]->∀g b n c,v=.slice (some ⟨g,b,none⟩) n c->¬M1 g):=by
 obtain⟨y,j,e,z,s⟩:=h;refine⟨⟨y,j,e,z,fun k i l=>?_⟩,fun m g b n c o=>?_⟩
 ·obtain⟨g,b,p,d,A,B⟩:=s k i l;have t:=(f.block g d (q g)).1;exact⟨g,b,p,l_ d f.size,(World.cell?_of_block (w:=w) t).trans A,(World.cell?_of_block (w:=w) t).trans B⟩
 ·obtain⟨i,l⟩:∃i,ins[0]?=some i:=by
   cases ins with
   | nil=>exact absurd rfl m
   | cons a r=>exact⟨a,rfl⟩
  obtain⟨u,x,p,d,_⟩:=s 0 i l;rw [e,p] at o;simp only [Value.slice.injEq,o_,Addr.mk.injEq,and_true] at o;obtain rfl:=o.1.1;exact(f.block u d (q u)).2
def GK:Nat:=5870000000000
theorem XZ{a k n:Nat}(h:a<=313+300*k)(c:k<=n)(b:n<=GK):a+300<=BS:=by unfold BS;unfold GK at b;omega
end
section
open Go.RowKit
theorem tU(fuel:Int)(ins:List (Q8×Int)):(eD fuel ins).length<=61:=by unfold eD;simp;omega
theorem pM:∀{a:List (Q8×Int)} {k:Nat} {i:Q8×Int},a[k]?=some i->(a.flatMap iL)[k*2]?=some (.string i.1)/\(a.flatMap iL)[k*2+1]?=some (Q1 i.2)
 | [],_,_,h=>by simp at h
 | x::r,0,i,h=>by simp only [List.getElem?_cons_zero,o_] at h;subst h;simp [iL]
 | x::r,k+1,i,h=>by rw [List.getElem?_cons_succ] at h;obtain⟨b,c⟩:=pM h;rw [List.flatMap_cons,show(k+1)*2=k*2+1+1 from by omega];exact⟨by simpa [iL] using b,by simpa [iL] using c⟩
theorem scr_of{w:World}{base:Nat}{v:Value}{ins:List (Q8×Int)}(h:w.ownsRow base FG 2 v ins.length (ins.flatMap iL)):F8 w v ins:=by
 rcases h.2 with⟨a,d⟩ | ⟨g,c,e,a,_,f,j,_,_,l⟩
 ·have:ins=[]:=e_ d;subst this;exact⟨none,0,a,n_,fun k i b=>by simp at b⟩
 ·refine⟨some ⟨g,0,none⟩,c,a,j,fun k i b=>⟨g,rfl,aB f,?_,?_⟩⟩
  ·have:=h.cells (g:=g) (by rw [a];rfl) (k*2) (.string i.1) (pM b).1
   rwa [Addr.add_lit,Nat.zero_add] at this
  ·have:=h.cells (g:=g) (by rw [a];rfl) (k*2+1) (.int .i64 i.2) (pM b).2
   rwa [Addr.add_lit,Nat.zero_add] at this
end
section
open Go.RowKit Go.Lib Go.Maps
variable {w:World} {v:Value}
theorem F8.below{w':World}{l:List (Q8×Int)}(h:F8 w v l)(a:Q3 w w'):F8 w' v l:=by obtain⟨d,b,e,f,i⟩:=h;refine⟨d,b,e,f,fun k o j=>?_⟩;obtain⟨g,m,c,n,q⟩:=i k o j;exact⟨g,m,l_ c a.size,(a.cell (p:=⟨g,_,none⟩) c).trans n,(a.cell (p:=⟨g,_,none⟩) c).trans q⟩
theorem F8.slice{l:List (Q8×Int)}(h:F8 w v l):∃b n a,v=.slice b n a:=by obtain⟨b,a,e,_⟩:=h;exact⟨b,_,a,e⟩
theorem KB.slice{l:List PO}(h:KB w v l):∃b n a,v=.slice b n a:=by obtain⟨b,a,e,_⟩:=h;exact⟨b,_,a,e⟩
end
open Pl (arity)
section
open Go.ChangeShapes Go.WideShapes Go.RowKit Go.Deep
variable {W:World} {v:Value}
theorem Tryz.cellsIn:prog.cellsOf 29=2:=by kernel_rfl
theorem Tryz.P2:prog.cellsOf 3=1:=by kernel_rfl
theorem Tryz.KU:prog.cellsOf 9=1:=by kernel_rfl
def inOf(a b:Value):Q8×Int:=match a,b with
 | .string s,.int _ n=>(s,n)
 | _,_=>(ByteArray.empty,0)
theorem xN{H:Type}{enc:TypeId×Value->H}{r:Reach}{b0 base:Nat}{d:DataW H}{ps:List MemPlace}(o:Value.okWide prog W r b0 22 v)(N:DataW.Trod enc prog W base (fun _=>true) true 22 v d ps) :∃g,JF W v g/\g.length<=maxLen/\∀i∈g,i.1.size<=maxLen:=by
 obtain⟨a,p,B,rfl⟩:=okWide_slice underlying22 o;obtain⟨I,O⟩:=N;rcases open_slice_pairs underlying22 underlying29 Tryz.cellsIn rfl rfl Tryz.KU Tryz.P2 O with⟨q,P⟩ | ⟨A,J,K,m,n,L,M,T,U,V,X,q,_,Q,Y,C,P,t⟩
 ·simp only [Value.cells,List.cons.injEq,Value.slice.injEq,and_true] at q;obtain⟨rfl,rfl,rfl⟩:=q;exact⟨[],⟨none,0,rfl,n_,fun k i f=>by simp at f⟩,Nat.zero_le _,fun i f=>by cases f⟩
 ·simp only [Value.cells,List.cons.injEq,Value.slice.injEq,and_true] at q;obtain⟨rfl,rfl,rfl⟩:=q;simp only [if_true] at C;have c:∀i,i<p->∃(s:Q8)(z:Int),W.cell? (A.add (i*2))=some (.string s)/\W.cell? (A.add (i*2+1))=some (Q1 z)/\inOf (L i) (M i)=(s,z)/\s.size<=maxLen:=fun i f=>by obtain⟨l,u,w,D⟩:=t i x8;obtain⟨s,E,_,R⟩:=DataW.trod_string underlying9 w;obtain⟨z,F,_,_⟩:=DataW.trod_int underlying3 D;simp only [List.cons.injEq,and_true] at E F;rw [E] at l;rw [F] at u;exact⟨s,z,l,u,by rw [E,F];rfl,R⟩
  refine⟨(List.range p).map fun i=>inOf (L i) (M i),⟨some A,B,w9,by simpa using Q,fun k i f=>?_⟩,r7,fun i f=>?_⟩
  ·rw [List.getElem?_map] at f;obtain⟨j,x,e⟩:=m_ f;have h:=(s_ x).1;rw [List.length_range] at h;rw [List.getElem?_range h] at x;obtain rfl:=i_ x;obtain⟨s,z,l,u,w,_⟩:=c k h;obtain⟨_,_,S,_⟩:=c 0 x8;rw [w] at e;subst e;obtain⟨b,G,y⟩:=A;obtain rfl:y=none:=by simpa [Addr.add] using World.cell?_spot S
   rw [Addr.add_mid] at l u;exact⟨b,G,rfl,World.block_lt_of_cell? _ _ l,l,by rw [Nat.add_assoc];exact u⟩
  ·obtain⟨j,x,rfl⟩:=List.mem_map.1 f;obtain⟨s,z,_,_,w,D⟩:=c j (List.mem_range.1 x);rw [w];exact D
theorem rK{H:Type}{enc:TypeId×Value->H}{W':World}{base:Nat}{t:TypeId}{d:DataW H}{ps:List MemPlace}(b:DataW.Trod enc prog W base (fun _=>true) true t v d ps)(c:∀p∈ps,p.block<W.heap.size)(e:Q3 W W'):DataW.Trod enc prog W' base (fun _=>true) true t v d ps:=by obtain⟨a,f⟩:=b;exact⟨a,DataW.trod_carry a t _ _ f (fun p g=>e.same (c p g))⟩
theorem Tryz.gPrm:prog.globalNamed "stepper/value.primitives"=some 0:=by kernel_rfl
theorem Tryz.gPrmT:(prog.globals[0]?).map (·.type)=some 148:=by kernel_rfl
theorem Tryz.UZ:prog.cellsOf 147=2:=by kernel_rfl
def Z7:List (DataW Unit):=Pl.AO.take 12 |>.map fun nm=>.agg [.lit (.string nm),.lit (.int .i64 (arity nm:Nat))]
theorem sY:(Rows.laid_stepper_value_primitives:DataW Unit)=.agg Z7:=rfl
theorem oQ{rest:List (String×DataW Unit)}(h:laidMet prog (("stepper/value.primitives",Rows.laid_stepper_value_primitives)::rest) W):EH W:=by
 obtain⟨R,⟨S,T,v,w,p,q,g,o,a,y,_,_⟩,_⟩:=h;obtain rfl:=i_ (Tryz.gPrm.symm.trans g);obtain rfl:=i_ (Tryz.gPrmT.symm.trans o);rw [sY] at y;obtain⟨r,m,_,A,U,V,c⟩:=DataW.trod_array Tryz.NK y;simp only [Prod.mk.injEq,DataW.agg.injEq] at A;intro k t H d;have B:=c k d;obtain⟨x,f⟩:∃x,r[k]?=some x:=⟨r[k]' x8,g_ _⟩
 rw [f,Tryz.UZ] at B
 have b:x.1=.agg [.lit (.string t),.lit (.int .i64 (arity t:Nat))]:=by
  have e:(r.map (·.1))[k]?=some x.1:=by rw [List.getElem?_map,f];rfl
  rw [<- A.1] at e;unfold Z7 at e;rw [List.getElem?_map,List.getElem?_take_of_lt d,H] at e;exact(i_ e).symm
 obtain⟨X,Y,n,I,_,J,K⟩:=trod_struct2 underlying147 B;obtain⟨s,C,L,_⟩:=DataW.trod_string underlying9 J;obtain⟨z,D,M,_⟩:=DataW.trod_int underlying3 K;rw [I,L,M] at b;simp only [DataW.agg.injEq,List.cons.injEq,DataW.lit.injEq,Lit.string.injEq,Lit.int.injEq,and_true,true_and] at b;obtain⟨E,N⟩:=b;rw [show prog.cellsOf 9=1 from Tryz.KU] at C;rw [show prog.cellsOf 3=1 from Tryz.P2] at D;have O:∀(l:List Value)(i j:Nat)(u:Value),((l.drop i).drop j).take 1=[u]->l[i+j]?=some u:=fun l i j u P=>by have:=congrArg (fun l=>l[0]?) P;simpa using this
 have F:v.toList[k*2+0]?=some (.string s):=by have:=congrArg (fun l=>l[0]?) C;simpa [List.getElem?_take,List.getElem?_drop] using this
 have G:v.toList[k*2+1]?=some (Q1 z):=by have:=congrArg (fun l=>l[0]?) D;simpa [List.getElem?_take,List.getElem?_drop] using this
 have Q:s=⟨t.toArray⟩:=by obtain⟨⟨Z⟩⟩:=s;simp only at E;rw [<- E]
 rw [World.var?_cell Tryz.gPrm a,World.var?_cell Tryz.gPrm a];rw [Q] at F;rw [N] at G;exact⟨zO5,by simpa using G⟩
def InT(t:TypeId):Prop:=t=22\/t=29\/t=9\/t=3
theorem kidsIn:Kids prog InT:=by
 refine⟨fun {t e} a h=>?_,fun {t e} a h=>?_,fun {t e n} a h=>?_,fun {t c} a h=>?_,fun {t k e} a h=>?_⟩
 ·exact zJ8
 ·rcases a with rfl | rfl | rfl | rfl
  ·rw [underlying22] at h;cases h;exact .inr (.inl rfl)
  ·rw [underlying29] at h;cases h
  ·rw [underlying9] at h;cases h
  ·rw [underlying3] at h;cases h
 ·exact zJ8
 ·rcases a with rfl | rfl | rfl | rfl
  ·rw [underlying22] at h;cases h
  ·rw [underlying29] at h
   cases h
   refine⟨fun f b=>?_,?_,fun j f b=>?_⟩
   ·simp only [List.mem_cons,List.not_mem_nil,or_false] at b;rcases b with rfl | rfl
    ·exact .inr (.inr (.inl rfl))
    ·exact .inr (.inr (.inr rfl))
   ·rw [Tryz.cellsIn];simp [Tryz.KU,Tryz.P2]
   ·rcases j with _ | _ | j
    ·obtain rfl:=i_ b;rfl
    ·obtain rfl:=i_ b;simp [Tryz.KU]
    ·cases b
  ·rw [underlying9] at h;cases h
  ·rw [underlying3] at h;cases h
 ·exact zJ8
theorem tX{H:Type}{enc:TypeId×Value->H}{W':World}{d:DataW H}{ps:List MemPlace}(c:DataW.Trod enc prog W 0 (fun _=>true) true 22 v d ps)(a:∀p∈ps,p.block<W.heap.size)(f:Q3 W W'):DataW.Trod enc prog W' 0 (fun b=>decide (b<W.heap.size)) true 22 v d ps :=
 (rK c a f).respare kidsIn (fun t e g h=>by
  rcases g with rfl | rfl | rfl | rfl
  ·rw [underlying22] at h;cases h;rw [Tryz.cellsIn];omega
  ·rw [underlying29] at h;cases h
  ·rw [underlying9] at h;cases h
  ·rw [underlying3] at h;cases h) (.inl rfl) (fun p i=>decide_eq_true (a p i))
end
section
open Go
section
variable {H:Type} {enc:TypeId×Value->H}
end
theorem Tryz.glob7:(((begin prog (fun _ _=>0) default).world.heap[7]?).bind Obj.row?).isSome=true:=by kernel_rfl
theorem Tryz.globN:7<prog.globals.size:=of_decide_eq_true t8
theorem size_of_shaped{W:World}(h:W.ShapedOpen prog):8<=W.heap.size:=by obtain⟨⟨z,t⟩,a⟩:=Option.isSome_iff_exists.1 Tryz.glob7;obtain⟨c,b,_⟩:=h.1 7 z t Tryz.globN a;have:=(Array.getElem?_eq_some_iff.1 b).1;omega
end
section
open Go.RowKit Go.Lib Go.Maps
structure Low(w:World):Prop where
 DI:8<=w.heap.size
 B3:Lib.TabIs prog w oS .u64 Lib.pow10Tab
 JQ:EH w
 gt:GT w
 ge:GE w
theorem Low.below{w w1:World}(h:Low w)(b:Q3 w w1):Low w1:=by
 have a:Gs w (fun _=>False):=⟨h.DI,fun _ _ h=>h,h.B3⟩
 have c:=a.below b;exact⟨c.size,c.B3,h.JQ.AQ a (Stp.AA b),h.gt.below b,h.ge.below b⟩
theorem toList_inj{a b:Q8}:a.toList=b.toList↔a=b:=by rw [Lib.toList_data,Lib.toList_data];exact⟨fun e=>by cases a;cases b;simpa using e,fun e=>by rw [e]⟩
end
section
open Go.ChangeShapes Go.WideShapes Go.ChangeAt Go.RowKit
variable {W:World}
theorem Tryz.own:ownKnob prog.godebug=none:=by kernel_rfl
theorem Tryz.et:prog.globalNamed "errors.errorType"=some 1:=by kernel_rfl
theorem Tryz.rt:(prog.cutTypes.find? (·.1 == "internal/reflectlite.rtype")).map (·.2)=some 207:=by kernel_rfl
theorem Tryz.size:prog.types.size=434:=by kernel_rfl
theorem Tryz.oneRow:((List.range 434).filter fun t=>prog.rowNamed t [101,114,114,111,114])=[72]:=by kernel_rfl
theorem Tryz.UG:prog.globalNamed "strconv.ErrRange"=some 6:=by kernel_rfl
theorem Tryz.YS:(prog.globals[6]?).map (·.type)=some 72:=by kernel_rfl
theorem Tryz.ZA:prog.cellsOf 301=1:=by kernel_rfl
theorem Tryz.cellsS:prog.cellsOf 9=1:=by kernel_rfl
theorem TE : "*" ++ "errors.errorString" = "*errors.errorString":=by decide
theorem Tryz.rowES(u:TypeId)(h:prog.typeName? 3 u=some "*errors.errorString"):u=299 :=typeName_ptr_named (nm := "errors.errorString") (by rw [TE];kernel_rfl) t8 w8 u (by rw [TE];exact h)
theorem kK(h:laidMetH prog Rows.fastsRow.laid W):GT W:=by
 have d:laidMet prog _ W/\handlesMet prog [("errors.errorType",Rows.laid_errors_errorType)] W:=h;obtain⟨a,u,e,f,g,i,j,b⟩:=d.2 _ (List.mem_singleton.2 rfl);have k:a=[101,114,114,111,114]:=(i_ f).symm;subst k;obtain rfl:=i_ (Tryz.rt.symm.trans g);have c:e∈(List.range 434).filter fun t=>prog.rowNamed t [101,114,114,111,114]:=List.mem_filter.2 ⟨List.mem_range.2 (by rw [<- Tryz.size];exact i),j⟩;rw [Tryz.oneRow] at c;obtain rfl:=List.mem_singleton.1 c;have l:typeHandle prog 72=.pointer (some ⟨8,72,none⟩):=by kernel_rfl
 rw [l] at b;simpa [GT] using World.var?_cell Tryz.et b 0
theorem lO(h:laidMetH prog Rows.fastsRow.laid W):GE W:=by have b:laidMet prog [("math/bits.deBruijn32tab",Rows.laid_math_bits_deBruijn32tab),("math/bits.deBruijn64tab",Rows.laid_math_bits_deBruijn64tab),("internal/strconv.uint64pow10",Rows.laid_internal_strconv_uint64pow10),("strconv.ErrRange",Rows.laid_strconv_ErrRange),("strconv.ErrSyntax",Rows.laid_strconv_ErrSyntax),("stepper/value.primitives",Rows.laid_stepper_value_primitives)] W/\handlesMet prog [("errors.errorType",Rows.laid_errors_errorType)] W:=h;obtain⟨c,d,a,_⟩:=laid_sentinel b.1.tail.tail.tail Tryz.UG Tryz.YS underlying72 Tryz.rowES underlying299 underlying301 rfl rfl underlying9 Tryz.ZA Tryz.cellsS;exact⟨_,by simpa using World.var?_cell Tryz.UG a 0,.inr ⟨_,_,rfl⟩⟩
theorem Tryz.gPow:prog.globalNamed "internal/strconv.uint64pow10"=some 2:=by kernel_rfl
theorem jO(h:laidMetH prog Rows.fastsRow.laid W):Lib.TabIs prog W oS .u64 Lib.pow10Tab/\EH W:=by have a:laidMet prog [("math/bits.deBruijn32tab",Rows.laid_math_bits_deBruijn32tab),("math/bits.deBruijn64tab",Rows.laid_math_bits_deBruijn64tab),("internal/strconv.uint64pow10",Rows.laid_internal_strconv_uint64pow10),("strconv.ErrRange",Rows.laid_strconv_ErrRange),("strconv.ErrSyntax",Rows.laid_strconv_ErrSyntax),("stepper/value.primitives",Rows.laid_stepper_value_primitives)] W/\handlesMet prog [("errors.errorType",Rows.laid_errors_errorType)] W:=h;exact⟨Lib.tabIs_of_head (n:=20) (t:=252) (e:=223) Tryz.gPow t8 t8 t8 t8 t8 a.1.tail.tail,oQ a.1.tail.tail.tail.tail.tail⟩
theorem aAK(os:Os)(args:Array Value):laidMetH prog Rows.fastsRow.laid ((World.doorLaid prog 86 os).forCall (fun _ _=>0) ⟨#[],args,[]⟩).memory :=laidMetH_of_parts3 (fuel:=8) (laidMet_of_run' 8 t8 t8) t8 t8
theorem PJ(b:W.ShapedOpen prog)(a:laidMetH prog Rows.fastsRow.laid W):Low W:=⟨size_of_shaped b,(jO a).1,(jO a).2,kK a,lO a⟩
end
section
open Go.RowKit
theorem KB.row{w:World}{v:Value}{l:List PO}{n:Nat}(h:KB w v l)(c:l.length=n):∃b a,v=.slice b n a/\n<=a:=by obtain⟨b,a,e,d,_⟩:=h;subst c;exact⟨b,a,e,d⟩
theorem KB.get{w:World}{a:Option Addr}{n cap:Nat}{l:List PO}(h:KB w (.slice a n cap) l){k:Nat}{o:PO}(c:l[k]?=some o):∃g,a=some ⟨g,0,none⟩/\g<w.heap.size/\w.cell? ⟨g,k*3,none⟩=some (Q1 o.code)/\w.cell? ⟨g,k*3+1,none⟩=some (.string ⟨o.out.toArray⟩)/\w.cell? ⟨g,k*3+2,none⟩=some (.string ⟨o.val.toArray⟩):=by obtain⟨d,b,e,i,f⟩:=h;simp only [Value.slice.injEq] at e;obtain⟨rfl,_,_⟩:=e;exact f k o c
end
end Go.Proofs.YtbgghmjmcapmlaaGreatDoor
