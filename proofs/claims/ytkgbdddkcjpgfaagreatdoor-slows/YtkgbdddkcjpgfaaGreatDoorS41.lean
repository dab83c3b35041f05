import Derived.Test.YtkgbdddkcjpgfaaGreatDoorS40
import Derived.Test.YtkgbdddkcjpgfaaGreatDoorS04
import Derived.Test.YtkgbdddkcjpgfaaGreatDoorS06
import Derived.Test.YtkgbdddkcjpgfaaGreatDoorS39
namespace Go.Proofs.YtkgbdddkcjpgfaaGreatDoor
set_option maxHeartbeats 4000000
set_option maxRecDepth 100000
open Go.Proofs.Tryz
open Pl (PV PW madeL)
section
open Go.RowKit
variable {w w':World}
def KeepPr(w w':World):Prop:=∀(k:Nat)(cur:Array Value)(e:TypeId),e≠TWd->e≠TPa->w.heap[k]?=some (.cells cur e (0,0))->w'.heap[k]?=some (.cells cur e (0,0))
theorem KeepPr.trans{a b c:World}(h:KeepPr a b)(k:KeepPr b c):KeepPr a c:=fun i cur e h1 h2 h3=>k i cur e h1 h2 (h i cur e h1 h2 h3)
theorem KeepPr.of_below(h:Below w.heap.size w w'):KeepPr w w':=fun k _ _ _ _ hb=>(h.block k (aB hb)).trans hb
theorem KeepPr.keepD(h:KeepPr w w'):KeepD (fun _=>True) w w':=fun k cur e _ ht hb=>h k cur e (by rcases ht with rfl | rfl<;>decide) (by rcases ht with rfl | rfl<;>decide) hb
theorem PrJ.keepP{w0:World}{wb:Nat}{W:PW}{pv qv cv lv gv:Value}{qs cs:List Value}{l:List (PV×PV)}{pv':Value}(h:PrJ w0 w wb W pv qv cv lv gv qs cs l pv')(hk:∀k,k<w.heap.size->k≠wb->pv'.ownBlock≠some k->w'.heap[k]?=w.heap[k]?):KeepPr w w':=by intro k cur e h1 h2 hb;rw [hk k (aB hb) (fun e=>by subst e;exact h1 (aK hb h.blk).2) (fun e=>by obtain⟨c,hc⟩:=aN h.row k e;exact h2 (aK hb hc).2)];exact hb
def MadePost(w0 w:World)(wb:Nat)(W:PW)(pv qv cv lv gv:Value)(qs cs:List Value)(l:List (PV×PV))(r:PV×List (PV×PV))(e:Ending)(w':World):Prop :=e=.returned (bT r.1)/\∃pv'',PrJ w0 w' wb W pv qv cv lv gv qs cs (l++r.2) pv''/\KeepPr w w'
def MadeSaid(w0:World)(wb:Nat)(W:PW)(pv qv cv lv gv:Value)(qs cs:List Value)(n:Nat):Prop :=
 ∀(w:World) (l:List (PV×PV)) (pv':Value) (dv:Value) (t:Pl.Tre),PrJ w0 w wb W pv qv cv lv gv qs cs l pv'->RepR (fun _=>True) n w dv t->cL n t->W.pairs.length+l.length+(Pl.made n (W.pairs.length+l.length) t).2.length<=1000000000 ->
  Calls prog 129 #[.pointer (some ⟨wb,0,none⟩),dv] w fun e w'=>MadePost w0 w wb W pv qv cv lv gv qs cs l (Pl.made n (W.pairs.length+l.length) t) e w'
theorem lK(w0:World)(wb:Nat)(W:PW)(pv qv cv lv gv:Value)(qs cs:List Value)(n:Nat)(w:World)(l:List (PV×PV))(pv':Value)(dv:Value)(t:Pl.Tre)(hJ:PrJ w0 w wb W pv qv cv lv gv qs cs l pv')(hR:RepR (fun _=>True) (n+1) w dv t)(hB:cL (n+1) t)(hl:¬∃ts,t=.agg ts) :Calls prog 129 #[.pointer (some ⟨wb,0,none⟩),dv] w fun e w'=>MadePost w0 w wb W pv qv cv lv gv qs cs l (Pl.made (n+1) (W.pairs.length+l.length) t) e w':=by
 have HJ:Hid (PrJ w0 w wb W pv qv cv lv gv qs cs l pv'):=hJ;obtain⟨b,rfl,_,hb⟩:=hR;have qA:∀(o:Obj)(k off:Nat),k<w.heap.size->(w.alloc o).cell? ⟨k,off,none⟩=w.cell? ⟨k,off,none⟩:=fun o k off hk=>((Below.refl _ _).alloc (Nat.le_refl _) o).cell (p:=⟨k,off,none⟩) hk
 match t,hb,hB,hl with
 | .lit (.int k m),⟨k',h1,h2⟩,hB,_ =>
  obtain rfl:k'=m:=h2 hB;have hbl:=aB h1;have c0:w.cell? ⟨b,0,none⟩=some (.string ⟨#[110,117,109,98,101,114]⟩):=aA h1 0;have c1:w.cell? ⟨b,1,none⟩=some (.int .i64 k'):=aA h1 1;have c2:w.cell? ⟨b,2,none⟩=some (.string ⟨#[]⟩):=aA h1 2;clear h1 h2 hB hJ;go_enter func129,ntmps129;go_wp2_with fail
  go_region
  all_goals
   go_wp2_with fail
   (try simp only [Exit.inBlock,Exit.then])
   refine bodyPost_ret (v:=bT (.num k')) ?_ rfl ?_
   ·rw [aO rfl];simp only [bT,byV,vK,vN,vS,kNu]
    go_simp
    try rfl
   ·refine⟨rfl,pv',?_,KeepPr.of_below (cM w _)⟩;show PrJ _ _ _ _ _ _ _ _ _ _ _ (l++[]) _;rw [List.append_nil];exact HJ.out.later (cM w _)
 | .lit (.bool x),h1,_,_ =>
  have hbl:=aB h1;have c0:w.cell? ⟨b,0,none⟩=some (.string ⟨#[116,114,117,116,104]⟩):=aA h1 0;have c1:w.cell? ⟨b,1,none⟩=some (.int .i64 (if x then 1 else 0)):=aA h1 1;have c2:w.cell? ⟨b,2,none⟩=some (.string ⟨#[]⟩):=aA h1 2;clear h1 hJ
  cases x with
  | true =>
   simp only [↓reduceIte] at c1;go_enter func129,ntmps129;go_wp2_with fail
   go_region
   all_goals
    go_wp2_with fail
    (try simp only [Exit.inBlock,Exit.then])
    refine bodyPost_ret (v:=bT (.truth true)) ?_ rfl ?_
    ·rw [aO rfl];simp only [bT,byV,vK,vN,vS,kTr]
     go_simp
     try rfl
    ·refine⟨rfl,pv',?_,KeepPr.of_below (cM w _)⟩;show PrJ _ _ _ _ _ _ _ _ _ _ _ (l++[]) _;rw [List.append_nil];exact HJ.out.later (cM w _)
  | false =>
   simp only [↓reduceIte,Bool.false_eq_true] at c1;go_enter func129,ntmps129;go_wp2_with fail
   go_region
   all_goals
    go_wp2_with fail
    (try simp only [Exit.inBlock,Exit.then])
    refine bodyPost_ret (v:=bT (.truth false)) ?_ rfl ?_
    ·rw [aO rfl];simp only [bT,byV,vK,vN,vS,kTr]
     go_simp
     try rfl
    ·refine⟨rfl,pv',?_,KeepPr.of_below (cM w _)⟩;show PrJ _ _ _ _ _ _ _ _ _ _ _ (l++[]) _;rw [List.append_nil];exact HJ.out.later (cM w _)
 | .lit (.string s),h1,_,_ =>
  have hbl:=aB h1;have c0:w.cell? ⟨b,0,none⟩=some (.string ⟨#[110,97,109,101]⟩):=aA h1 0;have c1:w.cell? ⟨b,1,none⟩=some (.int .i64 0):=aA h1 1;have c2:w.cell? ⟨b,2,none⟩=some (.string ⟨s.toArray⟩):=aA h1 2;clear h1 hJ;go_enter func129,ntmps129;go_wp2_with fail
  go_region
  all_goals
   go_wp2_with fail
   (try simp only [Exit.inBlock,Exit.then])
   refine bodyPost_ret (v:=bT (.name s)) ?_ rfl ?_
   ·rw [aO rfl];simp only [bT,byV,vK,vN,vS,kNa]
    go_simp
    try rfl
   ·refine⟨rfl,pv',?_,KeepPr.of_below (cM w _)⟩;show PrJ _ _ _ _ _ _ _ _ _ _ _ (l++[]) _;rw [List.append_nil];exact HJ.out.later (cM w _)
 | .agg ts,_,_,hl=>exact absurd ⟨ts,rfl⟩ hl
theorem eU(f:Nat->Pl.Tre->PV×List (PV×PV))(b:Nat)(x:Pl.Tre)(r:List Pl.Tre):madeL f b (x::r)=((.pair (b+(madeL f b r).2.length+(f (b+(madeL f b r).2.length) x).2.length)),(madeL f b r).2++(f (b+(madeL f b r).2.length) x).2++[((f (b+(madeL f b r).2.length) x).1,(madeL f b r).1)]):=rfl
theorem gC(f:Nat->Pl.Tre->PV×List (PV×PV))(b:Nat):∀(k:Nat)(ts:List Pl.Tre),(madeL f b (ts.drop k)).2.length<=(madeL f b ts).2.length
 | 0,ts=>by simp
 | k+1,[]=>by simp
 | k+1,x::r=>by have:=gC f b k r;rw [List.drop_succ_cons,eU];simp only [List.length_append];omega
theorem uI{w0:World}{wb:Nat}{W:PW}{pv qv cv lv gv:Value}{qs cs:List Value}{l:List (PV×PV)}{pv':Value}(h:PrJ w0 w wb W pv qv cv lv gv qs cs l pv'){R:Nat}(hR:w0.heap.size<=R){c:Array Value}(hc:w.heap[R]?=some (.cells c TV (0,0)))(x y z:Value):PrJ w0 (((w.setCell ⟨R,0,none⟩ x).setCell ⟨R,1,none⟩ y).setCell ⟨R,2,none⟩ z) wb W pv qv cv lv gv qs cs l pv' :=
 h.grown (e6 w R x y z) (fun k hk=>by
  obtain rfl:=Option.some.inj hk
  exact⟨hR,fun e=>by obtain⟨c2,h2⟩:=aN h.row R e;exact absurd (aK hc h2).2 (by decide)⟩)
theorem lJ(w0:World)(wb:Nat)(W:PW)(pv qv cv lv gv:Value)(qs cs:List Value)(n:Nat)(hM:MadeSaid w0 wb W pv qv cv lv gv qs cs n)(w:World)(l:List (PV×PV))(pv':Value)(dv:Value)(ts:List Pl.Tre)(hJ:PrJ w0 w wb W pv qv cv lv gv qs cs l pv')(hR:RepR (fun _=>True) (n+1) w dv (.agg ts))(hB:cL (n+1) (.agg ts))(hn:W.pairs.length+l.length+(Pl.made (n+1) (W.pairs.length+l.length) (.agg ts)).2.length<=1000000000) :Calls prog 129 #[.pointer (some ⟨wb,0,none⟩),dv] w fun e w'=>MadePost w0 w wb W pv qv cv lv gv qs cs l (Pl.made (n+1) (W.pairs.length+l.length) (.agg ts)) e w':=by
 have HJ:Hid (PrJ w0 w wb W pv qv cv lv gv qs cs l pv'):=hJ;have HMd:Hid (MadeSaid w0 wb W pv qv cv lv gv qs cs n):=hM;have HR:Hid (RepR (fun _=>True) (n+1) w dv (.agg ts)):=hR;have HBt:Hid (∀x∈ts,cL n x):=hB;have hs0:=hJ.chg.size;obtain⟨b,kids,us,rfl,hbl,ck,c3,hS,hul,hA⟩:=hR.list;have HA:Hid (∀(i:Nat)(u:Value)(x:Tr),us[i]?=some u->ts[i]?=some x->RepR (fun _=>True) n w u x):=hA;have hlen:=hR.short;obtain⟨ao,cap,rfl,hcap,hcell⟩:=hS;rw [hul] at c3 hcap;have HC:Hid (∀(i:Nat)(u:Value),us[i]?=some u->∃g off,ao=some ⟨g,off,none⟩/\g<w.heap.size/\w.cell? ⟨g,off+i,none⟩=some u):=hcell;have HUl:Hid (us.length=ts.length):=hul;have ck2:w.cell? ⟨b,0,none⟩=some (.string ⟨#[108,105,115,116]⟩):=ck;have qA:∀(o:Obj)(k off:Nat),k<w.heap.size->(w.alloc o).cell? ⟨k,off,none⟩=w.cell? ⟨k,off,none⟩:=fun o k off hk=>((Below.refl _ _).alloc (Nat.le_refl _) o).cell (p:=⟨k,off,none⟩) hk;have qB:∀(o o2:Obj)(k off:Nat),k<w.heap.size->((w.alloc o).alloc o2).cell? ⟨k,off,none⟩=w.cell? ⟨k,off,none⟩:=fun o o2 k off hk=>(((Below.refl _ _).alloc (Nat.le_refl _) o).alloc (by simp) o2).cell (p:=⟨k,off,none⟩) hk;have HB2:Hid (∀o1 o2:Obj,Below w.heap.size w ((w.alloc o1).alloc o2)):=fun o1 o2=>((Below.refl _ _).alloc (Nat.le_refl _) _).alloc (by simp) _;have HNn:Hid (W.pairs.length+l.length+(madeL (Pl.made n) (W.pairs.length+l.length) ts).2.length<=1000000000):=hn;clear hJ hM hR hB ck hul hA hcell hn;go_enter func129,ntmps129;go_wp2_with fail
 go_loopw [6,7] (fun iv _ wr=>∃(k:Nat)(pvk:Value),k<=ts.length/\iv=.int .i64 ((k:Int)-1)/\Hid (PrJ w0 wr wb W pv qv cv lv gv qs cs (l++(madeL (Pl.made n) (W.pairs.length+l.length) (ts.drop k)).2) pvk)/\Hid (wr.heap[w.heap.size+1]?=some (.cells #[byV (vK (madeL (Pl.made n) (W.pairs.length+l.length) (ts.drop k)).1),.int .i64 (vN (madeL (Pl.made n) (W.pairs.length+l.length) (ts.drop k)).1),byV (vS (madeL (Pl.made n) (W.pairs.length+l.length) (ts.drop k)).1)] TV (0,0)))/\Hid (wr.heap[w.heap.size]?=some (.cells #[.string ⟨#[]⟩,.int .i64 0,.string ⟨#[]⟩] TV (0,0)))/\Hid (KeepPr w wr)) (fun iv _ _=>(intOf iv+1).toNat)
 case atStart =>
  refine⟨ts.length,pv',Nat.le_refl _,by go_num,?_,?_,?_,KeepPr.of_below (HB2.out _ _)⟩
  ·show PrJ _ _ _ _ _ _ _ _ _ _ _ _ _;rw [List.drop_length];show PrJ _ _ _ _ _ _ _ _ _ _ _ (l++[]) _;rw [List.append_nil];exact HJ.out.later (HB2.out _ _)
  ·show _=_;rw [List.drop_length];have:=heap_alloc_new (w.alloc (.cells #[.string ⟨#[]⟩,.int .i64 0,.string ⟨#[]⟩] 154)) (.cells #[.string ⟨#[101,109,112,116,121]⟩,.int .i64 0,.string ⟨#[]⟩] 154);rw [show(w.alloc (.cells #[.string ⟨#[]⟩,.int .i64 0,.string ⟨#[]⟩] 154)).heap.size=w.heap.size+1 from by simp] at this;exact this
  ·exact(Below.heap_alloc _ _ _ (by simp)).trans (heap_alloc_new w _)
 case round =>
  obtain⟨k,pvk,hk,rfl,HJk,HVk,HRk,HKk⟩:=hrel;by_cases hk0:k=0
  ·subst hk0;have hJk:=HJk.out;have hVk:=HVk.out;rw [List.drop_zero] at hJk hVk;have HV0:Hid _:=hVk;have HJ0:Hid (PrJ w0 wr wb W pv qv cv lv gv qs cs (l++(Pl.made (n+1) (W.pairs.length+l.length) (.agg ts)).2) pvk):=hJk;have v0:wr.cell? ⟨w.heap.size+1,0,none⟩=some (.string ⟨(vK (madeL (Pl.made n) (W.pairs.length+l.length) ts).1).toArray⟩):=aA hVk 0;have v1:wr.cell? ⟨w.heap.size+1,1,none⟩=some (.int .i64 (vN (madeL (Pl.made n) (W.pairs.length+l.length) ts).1)):=aA hVk 1;have v2:wr.cell? ⟨w.heap.size+1,2,none⟩=some (.string ⟨(vS (madeL (Pl.made n) (W.pairs.length+l.length) ts).1).toArray⟩):=aA hVk 2;obtain⟨r0,r1,r2,f0,f1,f2,s1,s2,s3⟩:=set3 HRk.out;clear hJk hVk;have HNM:Hid (bT (Pl.made (n+1) (W.pairs.length+l.length) (.agg ts)).1=.agg #[.string ⟨(vK (madeL (Pl.made n) (W.pairs.length+l.length) ts).1).toArray⟩,.int .i64 (vN (madeL (Pl.made n) (W.pairs.length+l.length) ts).1),.string ⟨(vS (madeL (Pl.made n) (W.pairs.length+l.length) ts).1).toArray⟩]):=rfl;clear HV0 HVk;generalize vK (madeL (Pl.made n) (W.pairs.length+l.length) ts).1=kk at *;generalize vN (madeL (Pl.made n) (W.pairs.length+l.length) ts).1=nn at *;generalize vS (madeL (Pl.made n) (W.pairs.length+l.length) ts).1=ss at *;go_wp2_with fail
   (try simp only [Exit.inBlock,Exit.then])
   refine bodyPost_ret (v:=.agg #[.string ⟨kk.toArray⟩,.int .i64 nn,.string ⟨ss.toArray⟩]) ?_ rfl ?_
   ·rw [aO rfl]
    go_simp
   ·refine⟨by rw [HNM.out],pvk,uI HJ0.out (by omega) HRk.out _ _ _,?_⟩;intro j cur e h1 h2 hb;have hj:=aB hb;rw [(e6 wr w.heap.size _ _ _).block j (aB (HKk.out j cur e h1 h2 hb)) (by simp;omega)];exact HKk.out j cur e h1 h2 hb
  ·obtain⟨j,rfl⟩:∃j,k=j+1:=⟨k-1,by omega⟩
   have hRw:=RepR.keep HKk.out.keepD _ _ _ HR.out;obtain⟨b',kids',us',e',hbl',_,c3',hS',hul',hA'⟩:=hRw.list;simp only [Value.pointer.injEq,Option.some.injEq,Addr.mk.injEq,and_true] at e';subst e';obtain⟨ao',cap',rfl,hcap',hcell'⟩:=hS';rw [hul'] at c3' hcap';obtain⟨u,hu⟩:∃u,us'[j]?=some u:=⟨_,List.getElem?_eq_getElem (by omega)⟩
   obtain⟨x,hx⟩:∃x,ts[j]?=some x:=⟨_,List.getElem?_eq_getElem (by omega)⟩
   obtain⟨g,off,e1,hg,hc⟩:=hcell' j u hu;subst e1;have hRx:=hA' j u x hu hx;obtain⟨bu,rfl⟩:=hRx.ptr;have HRx:Hid (RepR (fun _=>True) n wr (.pointer (some ⟨bu,0,none⟩)) x):=hRx;have hdr:ts.drop j=x::ts.drop (j+1):=by have hj:=(List.getElem?_eq_some_iff.1 hx).1;rw [<- (List.getElem?_eq_some_iff.1 hx).2,List.getElem_cons_drop]
   have HDr:Hid (ts.drop j=x::ts.drop (j+1)):=hdr;have hle:=gC (Pl.made n) (W.pairs.length+l.length) j ts;rw [hdr,eU] at hle;simp only [List.length_append,List.length_cons,List.length_nil] at hle;have hNn:=HNn.out;generalize hmr:madeL (Pl.made n) (W.pairs.length+l.length) (ts.drop (j+1))=mr at *;have HMr:Hid (madeL (Pl.made n) (W.pairs.length+l.length) (ts.drop (j+1))=mr):=hmr;have hbe:W.pairs.length+(l++mr.2).length=W.pairs.length+l.length+mr.2.length:=by rw [List.length_append];omega
   have HMx:=(show Hid _ from HMd.out wr (l++mr.2) pvk _ x HJk.out HRx.out (HBt.out x (List.mem_of_getElem? hx)) (by rw [hbe];omega))
   have HBe:Hid (W.pairs.length+(l++mr.2).length=W.pairs.length+l.length+mr.2.length):=hbe;have HLe:Hid (mr.2.length+(Pl.made n (W.pairs.length+l.length+mr.2.length) x).2.length+1<=(madeL (Pl.made n) (W.pairs.length+l.length) ts).2.length):=hle;have hjl:(j:Int)<(ts.length:Int):=by omega
   have hj1:(((j+1:Nat):Int)-1)=(j:Int):=by omega
   rw [hj1];clear hRw hbl' hA' hcell' hu hx hRx;go_wp2_with fail;refine Calls.mono HMx.out ?_;rintro e w1 ⟨rfl,pv2,hJ1,hK1⟩;rw [HBe.out] at hJ1 ⊢;generalize hmx:Pl.made n (W.pairs.length+l.length+mr.2.length) x=mx at *;have HMxx:Hid (Pl.made n (W.pairs.length+l.length+mr.2.length) x=mx):=hmx;clear hmx;have HJ1:Hid (PrJ w0 w1 wb W pv qv cv lv gv qs cs (l++mr.2++mx.2) pv2):=hJ1;have HK1:Hid (KeepPr wr w1):=hK1;have HV1:Hid (w1.heap[w.heap.size+1]?=some (.cells #[byV (vK mr.1),.int .i64 (vN mr.1),byV (vS mr.1)] TV (0,0))):=hK1 _ _ _ (by decide) (by decide) HVk.out;have HR1:Hid (w1.heap[w.heap.size]?=some (.cells #[.string ⟨#[]⟩,.int .i64 0,.string ⟨#[]⟩] TV (0,0))):=hK1 _ _ _ (by decide) (by decide) HRk.out;have hv1:=aB HV1.out;have qC:∀(o:Obj)(k off:Nat),k<w1.heap.size->(w1.alloc o).cell? ⟨k,off,none⟩=w1.cell? ⟨k,off,none⟩:=fun o k off hk=>((Below.refl _ _).alloc (Nat.le_refl _) o).cell (p:=⟨k,off,none⟩) hk;have v0:w1.cell? ⟨w.heap.size+1,0,none⟩=some (.string ⟨(vK mr.1).toArray⟩):=aA HV1.out 0;have v1:w1.cell? ⟨w.heap.size+1,1,none⟩=some (.int .i64 (vN mr.1)):=aA HV1.out 1;have v2:w1.cell? ⟨w.heap.size+1,2,none⟩=some (.string ⟨(vS mr.1).toArray⟩):=aA HV1.out 2;have HPj:Hid (∀o:Obj,Calls prog 174 #[.pointer (some ⟨wb,0,none⟩),.agg #[.string ⟨(vK mx.1).toArray⟩,.int .i64 (vN mx.1),.string ⟨(vS mx.1).toArray⟩],.agg #[.string ⟨(vK mr.1).toArray⟩,.int .i64 (vN mr.1),.string ⟨(vS mr.1).toArray⟩]] (w1.alloc o) fun e w'=>e=.returned (bT (.pair (W.pairs.length+(l++mr.2++mx.2).length)))/\∃pv'',PrJ w0 w' wb W pv qv cv lv gv qs cs (l++mr.2++mx.2++[(mx.1,mr.1)]) pv''/\(w1.alloc o).heap.size<=w'.heap.size/\(∀k,k<(w1.alloc o).heap.size->k≠wb->pv2.ownBlock≠some k->w'.heap[k]?=(w1.alloc o).heap[k]?)):=fun o =>uC w0 (w1.alloc o) wb W pv qv cv lv gv qs cs (l++mr.2++mx.2) pv2 mx.1 mr.1 (HJ1.out.later ((Below.refl _ _).alloc (Nat.le_refl _) _)) (by have h1:=HLe.out;have h2:=HNn.out;simp only [List.length_append];omega);clear hJ1 hK1 hle hNn;unfold bT byV;go_wp2_with fail;refine Calls.mono (HPj.out _) ?_;rintro e w3 ⟨rfl,pv3,hJ3,hs3,hk3⟩;have HK3:Hid (∀o:Obj,KeepPr w1 (w1.alloc o)):=fun o=>KeepPr.of_below ((Below.refl _ _).alloc (Nat.le_refl _) o);have hK3:=(PrJ.keepP (HJ1.out.later ((Below.refl _ _).alloc (Nat.le_refl _) _)) hk3)
   have HV3:Hid (w3.heap[w.heap.size+1]?=some (.cells #[byV (vK mr.1),.int .i64 (vN mr.1),byV (vS mr.1)] TV (0,0))):=hK3 _ _ _ (by decide) (by decide) (HK3.out _ _ _ _ (by decide) (by decide) HV1.out);have HR3:Hid (w3.heap[w.heap.size]?=some (.cells #[.string ⟨#[]⟩,.int .i64 0,.string ⟨#[]⟩] TV (0,0))):=hK3 _ _ _ (by decide) (by decide) (HK3.out _ _ _ _ (by decide) (by decide) HR1.out);have HKw:Hid (KeepPr w w3):=HKk.out.trans (HK1.out.trans ((HK3.out _).trans hK3));have HJ3:Hid (PrJ w0 w3 wb W pv qv cv lv gv qs cs (l++mr.2++mx.2++[(mx.1,mr.1)]) pv3):=hJ3;obtain⟨r0,r1,r2,f0,f1,f2,s1,s2,s3⟩:=set3 HV3.out;clear hJ3 hs3 hk3 hK3 v0 v1 v2 qC;simp only [aggP];go_wp2_with fail;refine⟨⟨j,pv3,by omega,rfl,?_,?_,?_,?_⟩,by simp [intOf]⟩
   ·show PrJ _ _ _ _ _ _ _ _ _ _ _ _ _;rw [HDr.out,eU,HMr.out,HMxx.out];have:=uI HJ3.out (show w0.heap.size<=w.heap.size+1 from by omega) HV3.out (.string ⟨#[112,97,105,114]⟩) (.int .i64 ((W.pairs.length:Int)+((l.length:Int)+((mr.2.length:Int)+(mx.2.length:Int))))) (.string ⟨#[]⟩);simpa [List.append_assoc] using this
   ·show _=_;rw [HDr.out,eU,HMr.out,HMxx.out];refine(aD (aD (aD HV3.out 0 _) 1 _) 2 _).trans ?_;have e:((W.pairs.length:Int)+((l.length:Int)+((mr.2.length:Int)+(mx.2.length:Int))))=((W.pairs.length+l.length+mr.2.length+mx.2.length:Nat):Int):=by omega
    rw [e];rfl
   ·exact((e6 w3 (w.heap.size+1) _ _ _).block w.heap.size (aB HR3.out) (by simp)).trans HR3.out
   ·intro q cur e h1 h2 hb;have hq:=aB hb;have h3:=HKw.out q cur e h1 h2 hb;exact((e6 w3 (w.heap.size+1) _ _ _).block q (aB h3) (by simp;omega)).trans h3
theorem lL(w0:World)(wb:Nat)(W:PW)(pv qv cv lv gv:Value)(qs cs:List Value):∀n,MadeSaid w0 wb W pv qv cv lv gv qs cs n
 | 0=>fun w l pv' dv t _ hR=>hR.elim
 | n+1=>fun w l pv' dv t hJ hR hB hn=>by
  by_cases hl:∃ts,t=.agg ts
  ·obtain⟨ts,rfl⟩:=hl;exact lJ w0 wb W pv qv cv lv gv qs cs n (lL w0 wb W pv qv cv lv gv qs cs n) w l pv' dv ts hJ hR hB hn
  ·exact lK w0 wb W pv qv cv lv gv qs cs n w l pv' dv t hJ hR hB hl
end
open Pl (PS SR Byt Env)
section
open Go.RowKit Go.Lib Go.Maps
variable {fv gv kv ov ev ev0:Value}
theorem Kept.after{M:Nat->Prop}{w w1 w':World}{rb:Nat}(h:Kept M w1 rb w')(hB:Below w.heap.size w w1)(hl:rb<w.heap.size):Kept M w rb w' :=⟨(Stp.of_below hB).trans h.stp,h.run.trans (hB.block rb hl),fun g cur fz hg=>(h.outs g cur fz ((hB.block g (aB hg)).trans hg)).trans (hB.block g (aB hg))⟩
theorem iF{M:Nat->Prop}{w w1 w2:World}{s t:Sg}{tb mb sb gb rb:Nat}{W W':PW}{S S':PS}{v:Value}{q:PV}(hr:RunAt M w sb rb fv ev gv kv ov)(hf:FrR M w s kv S.frames)(ho:OutR M w ov W.out)(hk:Kept M w rb w1)(l:Sg.Le s t)(ln:t.ns=s.ns)(hW:Wd M w1 t tb mb sb gb W')(eo:W'.out=W.out)(hv:RV t v q)(hS:S'=S.give q)(hc:RunCh w1 rb #[.pointer (some ⟨sb,0,none⟩),.nilIface,.pointer none,v,kv,ov] w2):Went M w s tb mb sb gb rb ⟨0,W',S'⟩ (.returned .nilIface) w2:=by
 subst hS;refine(eH hW (hk.run.trans hr.blk) hr.mrb hc (fun _=>eX hv) (fun hs=>?_) ?_).after2 hk.stp l ln
 ·exact(hf.go hk.stp l).go hs (Sg.Le.refl _)
 ·rw [eo];exact ho.keep (fun g cur fz hm hg=>⟨hk.outs g cur fz hg,hm⟩)
def SetQ(M:Nat->Prop)(w:World)(s:Sg)(tb mb sb gb rb:Nat)(W:PW)(env:Env)(nm:Byt)(q:PV)(v:Value)(w':World):Prop :=(∃i,Pl.seek W env nm=some i/\v=.nilIface/\Wd M w' s tb mb sb gb {W with places:=W.places.set i q}/\Kept M w rb w')\/(Pl.seek W env nm=none/\(∃es,v=aY es 8)/\Below w.heap.size w w')
theorem p_setR(M:Nat->Prop)(w:World)(s:Sg)(tb mb sb gb rb:Nat)(W:PW)(env:Env)(hW:Wd M w s tb mb sb gb W)(hN:NsOk s)(hgl:W.globals.length<=1000000000)(hr:RunAt M w sb rb fv ev0 gv kv ov)(he:EnvR M w s ev env)(nm:Byt)(k:Nat)(hk:s.ns[k]?=some nm)(hl:nm.length<=1000)(v:Value)(q:PV)(hv:RV s v q) :Calls prog 384 #[.pointer (some ⟨rb,0,none⟩),.agg #[.string ⟨nm.toArray⟩,.int .i64 (k:Int)],ev,v] w fun e w'=>∃x,e=.returned x/\SetQ M w s tb mb sb gb rb W env nm q x w':=by
 have hB1:Below w.heap.size w (w.alloc (.cells #[.string ⟨nm.toArray⟩,.int .i64 (k:Int)] TNam)):=(Below.refl _ _).alloc (Nat.le_refl _) _;have hrl:=aB hr.blk
 have HP:Hid (Calls prog 194 #[ev,.agg #[.string ⟨nm.toArray⟩,.int .i64 (k:Int)]] (w.alloc (.cells #[.string ⟨nm.toArray⟩,.int .i64 (k:Int)] TNam)) fun e w2=>∃v,e=.returned (.pointer v)/\Hid (Below w.heap.size w w2/\w2.heap[w.heap.size]?=some (.cells #[.string ⟨nm.toArray⟩,.int .i64 (k:Int)] TNam (0,0))/\PlcQ s env nm (.returned (.pointer v)))) :=
  show Calls _ _ _ _ _ from(uW M _ s ev env nm k hW.nodup (he.go (Stp.of_below hB1) (Sg.Le.refl _)) hk).mono (fun e w2 h=>by
   have hbx:w2.heap[w.heap.size]?=some (.cells #[.string ⟨nm.toArray⟩,.int .i64 (k:Int)] TNam (0,0)):=(h.1.block w.heap.size (by simp)).trans (heap_alloc_new w _);rcases h.2 with⟨h1,rfl⟩ | ⟨i,g,o,h1,h2,rfl⟩
   ·exact⟨_,rfl,hB1.trans (h.1.mono (by simp)),hbx,.inl ⟨h1,rfl⟩⟩
   ·exact⟨_,rfl,hB1.trans (h.1.mono (by simp)),hbx,.inr ⟨i,g,o,h1,h2,rfl⟩⟩)
 have HW:Hid (Wd M w s tb mb sb gb W):=hW;have HR:Hid (RunAt M w sb rb fv ev0 gv kv ov):=hr;have HK:Hid (s.ns[k]?=some nm/\NsOk s/\W.globals.length<=1000000000):=⟨hk,hN,hgl⟩
 have HV:Hid (RV s v q):=hv;obtain⟨oe,rfl⟩:=he.ptr;obtain⟨T,x,rfl⟩:=hv.iface;clear hW hN hr he hk hB1 hgl hv;go_enter func384,ntmps384
 go_upto_region 2 with(go_at_call 194;refine Calls.mono HP.out ?_;rintro e wc ⟨v,rfl,HQ⟩)
 obtain⟨hB2,hbx,hPl⟩:=HQ.out;have hb2:=(hB2.block rb hrl).trans HR.out.blk;have HB2:Hid (Below w.heap.size w wc):=hB2;have hW2:=HW.out.mv (Mv.below hB2);rcases hPl with⟨hno,hv⟩ | ⟨i,g,o,hi,hlp,hv⟩
 ·simp only [Ending.returned.injEq,Value.pointer.injEq] at hv;subst hv;have hsb:=(iU HW.out).2;have hgb:=(iU HW.out).1;have d0:wc.cell? ⟨rb,0,none⟩=some (.pointer (some ⟨sb,0,none⟩)):=aA hb2 0;have d1:wc.cell? ⟨sb,0,none⟩=some (.map (some gb)):=aA ((hB2.block sb hsb).trans HW.out.ses) 0;have d2:wc.cell? ⟨w.heap.size,0,none⟩=some (.string ⟨nm.toArray⟩):=aA hbx 0;have d3:wc.cell? ⟨w.heap.size,1,none⟩=some (.int .i64 (k:Int)):=aA hbx 1
  cases hfg:Pl.find W.globals nm with
  | some i =>
   obtain⟨v,p,hp,hv,hlk⟩:=rE HW.out.glob HK.out.2.1 HK.out.1 hfg;have l2:=hlk wc.drew (hB2.block gb hgb);have hsk:Pl.seek W env nm=some i:=by unfold Pl.seek;rw [hno];exact hfg
   obtain⟨w3,hrun3,hW3,hK3⟩:=Wd.putG (w:=wc.drew.drew) (HW.out.mv (Mv.below HB2.out.drew.drew)) HK.out.2.1 HK.out.1 hfg HV.out HK.out.2.2 rb _ hb2;have HX:Hid (SetQ M w s tb mb sb gb rb W env nm q .nilIface w3):=.inl ⟨i,hsk,rfl,hW3,hK3.after HB2.out.drew.drew hrl⟩;obtain⟨T',x',rfl⟩:=hv.iface;clear hlk hv hp hfg hno hB2 hbx hb2 HQ hW2 hsk hW3 hK3;go_wp2_with fail
   go_region
   all_goals
    go_wp2_with fail
    go_region
    all_goals
     go_wp2_with fail
     go_ret;exact⟨_,rfl,HX.out⟩
  | none =>
   have l2:=pS HW.out.glob HK.out.2.1 HK.out.1 hfg wc.drew (hB2.block gb hgb);have HX:Hid (∀es,SetQ M w s tb mb sb gb rb W env nm q (aY es 8) wc.drew):=fun es=>.inr ⟨by unfold Pl.seek;rw [hno];exact hfg,⟨es,rfl⟩,HB2.out.drew⟩;clear hfg hno hB2 hbx hb2 HQ hW2;go_wp2_with fail
   go_region
   all_goals
    go_wp2_with (go_at_call 78;refine(bJ _ _ _).mono ?_;rintro e w3 ⟨rfl,rfl⟩)
    go_ret;exact⟨_,rfl,HX.out _⟩
 ·simp only [Ending.returned.injEq,Value.pointer.injEq] at hv;subst hv;have hsk:Pl.seek W env nm=some i:=by unfold Pl.seek;rw [hi]
  obtain⟨hW3,hK3,hfz,u,hcu⟩:=hW2.setPlace hlp HV.out rb _ hb2;have HX:Hid (SetQ M w s tb mb sb gb rb W env nm q .nilIface (wc.setCell ⟨g,o,none⟩ (.iface T x))):=.inl ⟨i,hsk,rfl,hW3,hK3.after HB2.out hrl⟩;clear hi hlp hB2 hbx hb2 HQ hW2 hsk hW3 hK3;go_wp2_with fail;go_ret;exact⟨_,rfl,HX.out⟩
theorem uO(M:Nat->Prop)(w:World)(s:Sg)(tb mb sb gb rb:Nat)(W:PW)(S:PS)(env:Env)(hW:Wd M w s tb mb sb gb W)(hN:NsOk s)(hgl:W.globals.length<=1000000000)(hr:RunAt M w sb rb fv ev0 gv kv ov)(hf:FrR M w s kv S.frames)(ho:OutR M w ov W.out)(he:EnvR M w s ev env)(nm:Byt)(k:Nat)(hk:s.ns[k]?=some nm)(hl:nm.length<=1000)(v:Value)(q:PV)(hv:RV s v q)(r:SR)
  (hrr:r=match Pl.seek W env nm with | some i=>⟨0,{W with places:=W.places.set i q},S.give .nothing⟩ | none=>⟨8,W,S⟩) :
  Calls prog 383 #[.agg #[.string ⟨nm.toArray⟩,.int .i64 (k:Int),ev],.pointer (some ⟨rb,0,none⟩),v] w fun e w'=>Went M w s tb mb sb gb rb r e w':=by
 have hB1:Below w.heap.size w (w.alloc (.cells #[.string ⟨nm.toArray⟩,.int .i64 (k:Int),ev] 342)):=(Below.refl _ _).alloc (Nat.le_refl _) _;have hrl:=aB hr.blk;have hs1:Stp M w M (w.alloc (.cells #[.string ⟨nm.toArray⟩,.int .i64 (k:Int),ev] 342)):=Stp.of_below hB1;have HP:Hid (Calls prog 384 #[.pointer (some ⟨rb,0,none⟩),.agg #[.string ⟨nm.toArray⟩,.int .i64 (k:Int)],ev,v] (w.alloc (.cells #[.string ⟨nm.toArray⟩,.int .i64 (k:Int),ev] 342)) fun e w'=>∃x,e=.returned x/\SetQ M (w.alloc (.cells #[.string ⟨nm.toArray⟩,.int .i64 (k:Int),ev] 342)) s tb mb sb gb rb W env nm q x w') :=p_setR M _ s tb mb sb gb rb W env (hW.mv (Mv.below hB1)) hN hgl ⟨(hB1.block rb hrl).trans hr.blk,hr.mrb⟩ (he.go hs1 (Sg.Le.refl _)) nm k hk hl v q hv;have HB1:Hid (Below w.heap.size w (w.alloc (.cells #[.string ⟨nm.toArray⟩,.int .i64 (k:Int),ev] 342))):=hB1;have HW:Hid (Wd M w s tb mb sb gb W):=hW;have HR:Hid (RunAt M w sb rb fv ev0 gv kv ov):=hr;have HF:Hid (FrR M w s kv S.frames):=hf;have HO:Hid (OutR M w ov W.out):=ho;obtain⟨oe,rfl⟩:=he.ptr;obtain⟨T,x,rfl⟩:=hv.iface;clear hW hN hr he hf ho hk hB1 hs1 hgl hv
 cases hsk:Pl.seek W env nm with
 | some i =>
  rw [hsk] at hrr;have HRR:Hid (r=⟨0,{W with places:=W.places.set i q},S.give .nothing⟩):=hrr;clear hrr;go_enter func383,ntmps383
  go_upto_region 2 with(go_at_call 384;refine Calls.mono HP.out ?_;rintro e wc ⟨x1,rfl,HQ⟩)
  rcases HQ with⟨i',hi',rfl,hW2,hK2⟩ | ⟨hi',_⟩
  ·obtain rfl:i'=i:=Option.some.inj (hi'.symm.trans hsk);have hK:=hK2.after HB1.out hrl;have HX:Hid (∀w3,RunCh wc rb #[.pointer (some ⟨sb,0,none⟩),.nilIface,.pointer none,.iface 299 (.agg #[]),kv,ov] w3->Went M w s tb mb sb gb rb r (.returned .nilIface) w3):=fun w3 hc=>by rw [HRR.out];exact iF (W:=W) HR.out HF.out HO.out hK (Sg.Le.refl _) rfl hW2 rfl .nothing rfl hc
   have HG:Hid (Calls prog 169 #[.pointer (some ⟨rb,1,none⟩),.iface 299 (.agg #[])] wc fun e w'=>e=.returned (.tuple #[])/\RunCh wc rb #[.pointer (some ⟨sb,0,none⟩),.nilIface,.pointer none,.iface 299 (.agg #[]),kv,ov] w'):=jF wc rb _ _ _ _ _ _ _ (hK.run.trans HR.out.blk) ⟨_,_,rfl⟩;clear hW2 hK2 hK;go_wp2_with (go_at_call 169;refine Calls.mono HG.out ?_;rintro e w3 ⟨rfl,hc3⟩);go_ret;exact HX.out _ hc3
  ·rw [hsk] at hi';cases hi'
 | none =>
  rw [hsk] at hrr;have HRR:Hid (r=⟨8,W,S⟩):=hrr;clear hrr;go_enter func383,ntmps383
  go_upto_region 2 with(go_at_call 384;refine Calls.mono HP.out ?_;rintro e wc ⟨x1,rfl,HQ⟩)
  rcases HQ with⟨i',hi',_⟩ | ⟨_,⟨es,rfl⟩,hB2⟩
  ·rw [hsk] at hi';cases hi'
  ·have HX:Hid (Went M w s tb mb sb gb rb r (.returned (aY es 8)) wc):=show Went _ _ _ _ _ _ _ _ _ _ _ from by
    rw [HRR.out];exact iG HW.out HR.out HO.out (HB1.out.trans (hB2.mono HB1.out.size)) (by decide)
   clear hB2;unfold aY at HX ⊢;go_wp2_with fail;go_ret;exact HX.out
theorem m7(M:Nat->Prop)(w:World)(s:Sg)(tb mb sb gb rb:Nat)(W:PW)(S:PS)(hW:Wd M w s tb mb sb gb W)(hN:NsOk s)(hwg:WfE W W.globals)(hgl:W.globals.length<=1000000000)(hr:RunAt M w sb rb fv ev0 gv kv ov)(hf:FrR M w s kv S.frames)(ho:OutR M w ov W.out)(nm:Byt)(k:Nat)(hk:s.ns[k]?=some nm)(v:Value)(q:PV)(hv:RV s v q) :Calls prog 385 #[.agg #[.string ⟨nm.toArray⟩,.int .i64 (k:Int)],.pointer (some ⟨rb,0,none⟩),v] w fun e w'=>Went M w s tb mb sb gb rb ⟨0,Pl.bind W nm q,S.give .nothing⟩ e w':=by
 have hB1:Below w.heap.size w (w.alloc (.cells #[.string ⟨nm.toArray⟩,.int .i64 (k:Int)] 344)).drew:=((Below.refl _ _).alloc (Nat.le_refl _) _).drew;have hrl:=aB hr.blk;have hsb:=(iU hW).2;have e0:w.cell? ⟨rb,0,none⟩=some (.pointer (some ⟨sb,0,none⟩)):=aA hr.blk 0;have e1:w.cell? ⟨sb,0,none⟩=some (.map (some gb)):=aA hW.ses 0;have hb2:=(hB1.block rb hrl).trans hr.blk
 have hput:∃w3 t,(Instr.mapUpdate 145 (.map (some gb)) (.int .i64 (k:Int)) v).run prog (w.alloc (.cells #[.string ⟨nm.toArray⟩,.int .i64 (k:Int)] 344)).drew=.ok () w3/\(Sg.Le s t/\t.ns=s.ns)/\Wd M w3 t tb mb sb gb (Pl.bind W nm q)/\(Pl.bind W nm q).out=W.out/\Kept M w rb w3:=by
  cases hfg:Pl.find W.globals nm with
  | some i =>
   obtain⟨w3,h1,h2,h3⟩:=Wd.putG (hW.mv (Mv.below hB1)) hN hk hfg hv hgl rb _ hb2;refine⟨w3,s,h1,⟨Sg.Le.refl _,rfl⟩,?_,?_,h3.after hB1 hrl⟩
   ·unfold Pl.bind;rw [hfg];exact h2
   ·unfold Pl.bind;rw [hfg]
  | none =>
   obtain⟨w3,h1,h2,h3⟩:=Wd.newG (hW.mv (Mv.below hB1)) hN hk hfg hv hwg hgl rb _ hb2;refine⟨w3,s.addGlob,h1,⟨s.addGlob_le,rfl⟩,?_,?_,h3.after hB1 hrl⟩
   ·unfold Pl.bind;rw [hfg];exact h2
   ·unfold Pl.bind;rw [hfg]
 obtain⟨w3,t,hrun,hle,hW3,hout,hK⟩:=hput;have HX:Hid (∀w4,RunCh w3 rb #[.pointer (some ⟨sb,0,none⟩),.nilIface,.pointer none,.iface 299 (.agg #[]),kv,ov] w4->Went M w s tb mb sb gb rb ⟨0,Pl.bind W nm q,S.give .nothing⟩ (.returned .nilIface) w4):=fun w4 hc=>iF (W:=W) hr hf ho hK hle.1 hle.2 hW3 hout .nothing rfl hc;have HG:Hid (Calls prog 169 #[.pointer (some ⟨rb,1,none⟩),.iface 299 (.agg #[])] w3 fun e w'=>e=.returned (.tuple #[])/\RunCh w3 rb #[.pointer (some ⟨sb,0,none⟩),.nilIface,.pointer none,.iface 299 (.agg #[]),kv,ov] w'):=jF w3 rb _ _ _ _ _ _ _ (hK.run.trans hr.blk) ⟨_,_,rfl⟩;obtain⟨T,x,rfl⟩:=hv.iface;clear hW hN hwg hgl hr hf ho hk hv hle hW3 hout hK hb2;go_enter func385,ntmps385;go_wp2_with fail
 go_region
 all_goals
  go_wp2_with (go_at_call 169;refine Calls.mono HG.out ?_;rintro e w4 ⟨rfl,hc4⟩)
  go_ret;exact HX.out _ hc4
end
end Go.Proofs.YtkgbdddkcjpgfaaGreatDoor
