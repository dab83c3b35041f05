import Derived.Laws.OwnMore
import Derived.Deep.RegionLaw
import Derived.Test.YtkgbdddkcjpgfaaGreatDoorS15
import Derived.Test.YtkgbdddkcjpgfaaGreatDoorS04
import Derived.Deep.RegionWith
import Derived.Test.YtkgbdddkcjpgfaaGreatDoorS19
namespace Go.Proofs.YtkgbdddkcjpgfaaGreatDoor
set_option maxHeartbeats 4000000
set_option maxRecDepth 100000
open Go.Proofs.Tryz
open Pl (PV PF FR formOf tsz mkF fmF)
section
open Go.RowKit
variable {w:World} {vs:List Value} {base n m:Nat} {M:Nat->Prop} {v:Value}
theorem iV{P:Program}(t ty e:TypeId)(i:TypeInfo)(ht:P.underlying t=some (.slice e))(hi:P.info? e=some i)(ad:Addr)(n cap:Nat)(hnc:n<=cap)(p:Option Addr)(c:Nat) :(Builtin.append_ #[t,t] ty #[.slice (some ad) n cap,.slice p 0 c]).run P w=.ok (.slice (some ad) n cap) w:=by cases p<;>simp [Builtin.append_,run_underlying ht,sizeOf,typeInfo,hi,Builtin.lenOf,Builtin.firstCells,hnc,storeCells,loadCells,loadCellsFrom]
theorem iC{P:Program}{ops:Array Oper}{o:Oper}{a:Act}{K:Act->World->Prop}{Q:Exit->Act->World->Prop}{E:Prop}(hgd:o.guard=none)(s x:Operand)(t:TypeId)
  (ho:o.op=.call {callee:=.builtin .append,args:=#[s,x],argTypes:=#[t,t]})
  (e:TypeId) (i:TypeInfo) (ht:P.underlying t=some (.slice e)) (hi:P.info? e=some i)
  (ad:Addr) (n cap:Nat) (hnc:n<=cap) (p:Option Addr) (c:Nat) (hs:a.eval s=.slice (some ad) n cap) (hx:a.eval x=.slice p 0 c)
  (h:K (a.put o.dst (.slice (some ad) n cap)) w):if Region.wanted o (yielded ops a.tmps)=true then Oper.wp P o a w K Q else E:=by
 have hw:Region.wanted o (yielded ops a.tmps)=true:=by simp [Region.wanted,hgd]
 rw [if_pos hw];have hrun:=iV (P:=P) (w:=w) t o.type e i ht hi ad n cap hnc p c;unfold Oper.wp;simp [execOp,ho,resolve,invoke,builtin,hs,hx,hrun,Result.andThen];exact h
theorem tP{P:Program}{ops:Array Oper}{o:Oper}{a:Act}{K:Act->World->Prop}{Q:Exit->Act->World->Prop}{E:Prop}(hgd:o.guard=none)(f:FuncId)(xs:Array Operand)(ts:Array TypeId)
  (ho:o.op=.call {callee:=.value (.func f),args:=xs,argTypes:=ts}) {fn:Func} {c:Code} (hf:P.funcs[f]?=some fn) (hname:(fn.name == "runtime.NumGoroutine")=false) (hb:fn.body=some c)
  (vals:Array Value) (hv:xs.map a.eval=vals) {R:Ending->World->Prop} (hC:Calls P f vals w R) (h:∀e w',R e w'->∃v,e=.returned v/\K (a.put o.dst v) w'):if Region.wanted o (yielded ops a.tmps)=true then Oper.wp P o a w K Q else E:=by
 have hw:Region.wanted o (yielded ops a.tmps)=true:=by simp [Region.wanted,hgd]
 rw [if_pos hw];have hrun:=Go.MuLone.run_callFunc_enter (P:=P) hf hname hb vals w;have hx:(execOp a.eval o).run P w=.ok (.enter f vals) w:=by subst hv;simp [execOp,ho,resolve,invoke,Deferred.ofValue,Act.eval,hrun]
 unfold Oper.wp;rw [hx,Oper.upon_enter];refine hC.mono (fun e w' hr=>?_);obtain⟨v,rfl,hk⟩:=h e w' hr;exact hk
theorem kO{P:Program}{ops:Array Oper}{o:Oper}{a:Act}{K:Act->World->Prop}{Q:Exit->Act->World->Prop}{E:Prop}(hgd:o.guard=none)(f:FuncId)(x1 x2:Operand)(ts:Array TypeId)
  (ho:o.op=.call {callee:=.value (.func f),args:=#[x1,x2],argTypes:=ts}) {fn:Func} {c:Code} (hf:P.funcs[f]?=some fn) (hname:(fn.name == "runtime.NumGoroutine")=false) (hb:fn.body=some c)
  (v1 v2:Value) (h1:a.eval x1=v1) (h2:a.eval x2=v2) {R:Ending->World->Prop} (hC:Calls P f #[v1,v2] w R) (h:∀e w',R e w'->∃v,e=.returned v/\K (a.put o.dst v) w'):if Region.wanted o (yielded ops a.tmps)=true then Oper.wp P o a w K Q else E :=
 tP hgd f #[x1,x2] ts ho hf hname hb #[v1,v2] (by simp [h1,h2]) hC h
structure QInv(w wr:World)(a b:Nat)(nS vS:Value)(nvs vvs:List Value):Prop where
 below:Below w.heap.size w wr
 nrow:wr.ownsRow w.heap.size PT 1 nS a nvs
 vrow:wr.ownsRow w.heap.size PT 1 vS b vvs
 apart:∀r,nS.ownBlock=some r->vS.ownBlock≠some r
theorem qT(w:World)(e:TypeId)(h:base<=w.heap.size):(w.alloc (.cells #[] e)).ownsRow base e 1 (.slice (some ⟨w.heap.size,0,none⟩) 0 0) 0 [] :=⟨rfl,.inr ⟨w.heap.size,0,#[],rfl,h,heap_alloc_new _ _,Nat.le_refl _,by unfold maxLen;omega,rfl,rfl⟩⟩
theorem QInv.start(w:World):Hid (QInv w ((w.alloc (.cells #[] PT)).alloc (.cells #[] PT)) 0 0 (.slice (some ⟨w.heap.size,0,none⟩) 0 0) (.slice (some ⟨w.heap.size+1,0,none⟩) 0 0) [] []):=by
 have e:(w.alloc (.cells #[] PT)).heap.size=w.heap.size+1:=by simp
 refine QInv.mk (((Below.refl _ _).alloc (Nat.le_refl _) _).alloc (by simp) _) ((qT w PT (Nat.le_refl _)).alloc _) ?_ (fun r h=>by simp [Value.ownBlock] at h ⊢;omega);rw [<- e];exact qT _ PT (by simp)
theorem kV{a b:World}{x:Value}(h:a.ownsRow base PT 1 v n vs)(hg:a.grownBy b x.ownBlock)(hap:∀r,v.ownBlock=some r->x.ownBlock≠some r):b.ownsRow base PT 1 v n vs:=by
 refine⟨h.1,?_⟩;rcases h.2 with hn | ⟨g,cap,cur,hv,h0,hx,rest⟩
 ·exact .inl hn
 ·refine .inr ⟨g,cap,cur,hv,h0,?_,rest⟩;rw [hg.block g (aB hx) (fun e=>hap g (by rw [hv];rfl) e.symm)];exact hx
theorem QInv.pushN{wr w3:World}{a b:Nat}{nS vS:Value}{nvs vvs:List Value}(h:QInv w wr a b nS vS nvs vvs){o:Obj}{g' cap':Nat}{u:Value}
  (hown:w3.ownsRow w.heap.size PT 1 (.slice (some ⟨g',0,none⟩) (a+1) cap') (a+1) (nvs++[u])) (hg:(wr.alloc o).grownBy w3 nS.ownBlock) (hat:nS.ownBlock=some g'\/g'=wr.heap.size+1) :
  QInv w w3 (a+1) b (.slice (some ⟨g',0,none⟩) (a+1) cap') vS (nvs++[u]) vvs:=by
 have hrl:=h.nrow.lt;refine⟨?_,hown,kV (h.vrow.alloc o) hg (fun r hr e=>h.apart r e hr),?_⟩
 ·refine(h.below.alloc h.below.size o).grown hg ?_ ?_
  ·have:=h.below.size;simp;omega
  ·intro k hk;have:=(hrl k hk).1;omega
 ·intro r hr;simp only [Value.ownBlock,Option.some.injEq] at hr;subst hr;rcases hat with h1 | h1
  ·exact h.apart _ h1
  ·intro e;have:=(h.vrow.lt _ e).2;omega
theorem QInv.pushV{wr w3:World}{a b:Nat}{nS vS:Value}{nvs vvs:List Value}(h:QInv w wr a b nS vS nvs vvs){o:Obj}{g' cap':Nat}{u:Value}
  (hown:w3.ownsRow w.heap.size PT 1 (.slice (some ⟨g',0,none⟩) (b+1) cap') (b+1) (vvs++[u])) (hg:(wr.alloc o).grownBy w3 vS.ownBlock) (hat:vS.ownBlock=some g'\/g'=wr.heap.size+1) :
  QInv w w3 a (b+1) nS (.slice (some ⟨g',0,none⟩) (b+1) cap') nvs (vvs++[u]):=by
 have hrl:=h.vrow.lt;refine⟨?_,kV (h.nrow.alloc o) hg h.apart,hown,?_⟩
 ·refine(h.below.alloc h.below.size o).grown hg ?_ ?_
  ·have:=h.below.size;simp;omega
  ·intro k hk;have:=(hrl k hk).1;omega
 ·intro r hr e;simp only [Value.ownBlock,Option.some.injEq] at e;subst e;rcases hat with h1 | h1
  ·exact h.apart _ hr h1
  ·have:=(h.nrow.lt _ hr).2;omega
theorem zL(h:w.ownsRow base PT 1 v n vs):w.ownsRow 0 PT 1 v n vs:=⟨h.1,h.2.imp id (fun⟨g,cap,cur,a,_,c⟩=>⟨g,cap,cur,a,Nat.zero_le _,c⟩)⟩
theorem qU(w:World)(e:TypeId)(h:base<=w.heap.size)(u:Value):(w.alloc (.cells #[u] e)).ownsRow base e 1 (.slice (some ⟨w.heap.size,0,none⟩) 1 1) 1 [u] :=⟨rfl,.inr ⟨w.heap.size,1,#[u],rfl,h,heap_alloc_new _ _,Nat.le_refl _,by unfold maxLen;omega,rfl,rfl⟩⟩
theorem own_rep{ts:List Tr}(hM:∀k,M k->k<base)(h:AllD M n w vs ts)(hr:w.ownsRow base PT 1 v ts.length vs)(hl:ts.length<=1000):RepP (fun k=>¬M k) (n+1) w (.iface 115 v) (.agg ts) :=⟨v,vs,rfl,fun r hr' hm=>by have:=(hr.lt r hr').1;have:=hM r hm;omega,zL hr,h.2,hl⟩
theorem qV(hM:∀k,M k->k<base)(hr:w.ownsRow base PT 1 v n vs):DRow M w v vs:=by
 have hl:vs.length=n:=hr.1.trans (Nat.mul_one _);refine⟨by simp,?_⟩;rcases hr.2 with⟨hv,h0⟩ | ⟨g,cap,cur,hv,hge,hg,hc,_,_,ht⟩
 ·exact⟨none,0,by rw [hl,h0];exact hv,by omega,.inl (by omega)⟩
 ·refine⟨some ⟨g,0,none⟩,cap,by rw [hl];exact hv,by omega,.inr ⟨g,0,cur,rfl,fun x=>by have:=hM g x;omega,hg,?_⟩⟩;intro i u hu;rw [Nat.zero_add];rw [<- ht,List.getElem?_take] at hu;split at hu
  ·simpa using hu
  ·cases hu
theorem rR{nv bv:Value}{ns bd:Tr}(hM:∀k,M k->k<w.heap.size)(hn:RepP (fun k=>¬M k) n w nv ns)(hb:RepP (fun k=>¬M k) n w bv bd)(o:Obj)(ho:o=.cells #[.iface 117 (.string ⟨#[108,97,109,98,100,97]⟩),nv,bv] PT (0,0)) :RepP (fun k=>¬M k) (n+1) (w.alloc o) (.iface 115 (.slice (some ⟨w.heap.size,0,none⟩) 3 3)) (.agg [.lit (.string Pl.lambdaW),ns,bd]):=by
 have hlt:Below w.heap.size w (w.alloc o):=bB w o;refine⟨_,[.iface 117 (.string ⟨#[108,97,109,98,100,97]⟩),nv,bv],rfl,fun r hr hm=>by simp [Value.ownBlock] at hr;subst hr;have:=hM _ hm;omega,⟨rfl,.inr ⟨w.heap.size,3,_,rfl,Nat.zero_le _,by rw [ho];exact heap_alloc_new _ _,by simp,by simp [maxLen],rfl,rfl⟩⟩,?_,by simp⟩;intro i u x hu hx
 match i,hu,hx with
 | 0,hu,hx =>
  simp only [List.getElem?_cons_zero,Option.some.injEq] at hu hx;subst hu hx
  cases n with
  | zero=>exact hn.elim
  | succ n=>rfl
 | 1,hu,hx =>simp at hu hx;subst hu hx;exact hn.go (Stp.of_below hlt)
 | 2,hu,hx =>simp at hu hx;subst hu hx;exact hb.go (Stp.of_below hlt)
 | _+3,hu,_=>simp at hu
theorem lA{ok:Nat->Prop}:∀(n m:Nat)(v:Value)(t:Tr),RepP ok n w v t->n<=m->tsz m t=tsz n t
 | 0,_,_,_,h,_=>h.elim
 | _+1,0,_,_,_,h=>by omega
 | n+1,m+1,v,t,h,hm=>by
  match t,h with
  | .lit (.int _ _),_=>rfl
  | .lit (.bool _),_=>rfl
  | .lit (.string _),_=>rfl
  | .agg ts,h =>
   obtain⟨sl,vs,_,_,h3,h4,_⟩:=h;show(ts.map (tsz m)).sum=(ts.map (tsz n)).sum
   congr 1
   apply List.map_congr_left;intro x hx;obtain⟨i,hi⟩:=List.mem_iff_getElem?.1 hx;have hl:vs.length=ts.length:=h3.1.trans (Nat.mul_one _);have hlt:=(List.getElem?_eq_some_iff.1 hi).1;exact lA n m _ x (h4 i vs[i] x (List.getElem?_eq_getElem (by omega)) hi) (by omega)
theorem let_seq(o:Option PF)(f:Tr->Option PF)(ts:List Tr)(b:Nat):(Pl.seqL (fmF o::ts.map fun t=>fmF (f t)) b).map (fun r=>(mkF .call [] .nil r.1 [],r.2))=fmF (o.bind fun h=>(Pl.allF f ts).map fun r=>mkF .call [] .nil (h::r) []) b:=by
 simp only [Pl.seqL]
 cases o with
 | none=>rfl
 | some h =>
  simp only [fmF,Option.map_some,Option.bind_some];rw [Pl.seqL_eq]
  cases Pl.allF f ts with
  | none=>rfl
  | some l=>simp [mkF,Pl.settle_other,Pl.settleL_cons]
def LamSaid(n:Nat):Prop:=∀(M:Nat->Prop)(w:World)(v:Value)(a b:Tr),RepP (fun k=>¬M k) (n+1) w v (.agg [.lit (.string Pl.lambdaW),a,b])->cL n a->cL n b->FCall M w v (fmF (Pl.lamF (formOf n) a b)) (tsz n a+tsz n b)
theorem nX{x:Tr}(h:¬∃a b,x=.agg [a,b]):Pl.isPair x=false:=by
 unfold Pl.isPair;split
 ·exact absurd ⟨_,_,rfl⟩ h
 ·rfl
theorem vY{f:Tr->Option PF}{ts:List Tr}(h:¬ts.length=2):Pl.let2F f ts=none:=by
 match ts,h with
 | [],_=>rfl
 | [_],_=>rfl
 | _::_::_::_,_=>rfl
theorem q9{f:Tr->Option PF}{l:List Tr}{b:Tr}(h:l.all Pl.isPair=false):Pl.letF f (.agg l) b=none:=by simp [Pl.letF,h]
theorem pD{f:Tr->Option PF}{p b:Tr}(h:¬∃l,p=.agg l):Pl.letF f p b=none:=by
 unfold Pl.letF;split
 ·exact absurd ⟨_,rfl⟩ h
 ·rfl
theorem letF_ok{f:Tr->Option PF}{l:List Tr}{b:Tr}(h:l.all Pl.isPair=true):Pl.letF f (.agg l) b=(Pl.lamF f (.agg (l.map Pl.fstOf)) b).bind fun h=>(Pl.allF f (l.map Pl.sndOf)).map fun r=>mkF .call [] .nil (h::r) []:=by simp [Pl.letF,h]
theorem vV{ok:Nat->Prop}:∀{l:List Tr},All2 (RepP ok (m+1) w) vs l->l.all Pl.isPair=true->((l.map Pl.fstOf).map (tsz (m+1))).sum+((l.map Pl.sndOf).map (tsz (m+1+1))).sum=(l.map (tsz (m+1))).sum:=by
 intro l hA hp
 induction l generalizing vs with
 | nil=>rfl
 | cons x r ih =>
  match vs,hA with
  | [],hA=>have:=hA.1;simp at this
  | v::vs,hA =>
   simp only [List.all_cons,Bool.and_eq_true] at hp;have ht:All2 (RepP ok (m+1) w) vs r:=⟨by have:=hA.1;simpa using this,fun i u y hu hy=>hA.2 (i+1) u y (by simpa using hu) (by simpa using hy)⟩
   have h0:=hA.2 0 v x rfl rfl;have:=ih ht hp.2
   obtain⟨a,b,rfl⟩:∃a b,x=.agg [a,b]:=by
    unfold Pl.isPair at hp;split at hp
    ·exact⟨_,_,rfl⟩
    ·simp at hp
   obtain⟨sl,us,_,_,h3,h4,_⟩:=h0;have hl:us.length=2:=h3.1.trans (Nat.mul_one _);obtain⟨u1,u2,rfl⟩:=fO hl;have ra:=h4 0 u1 a rfl rfl;have rb:=h4 1 u2 b rfl rfl;have e1:=lA m (m+1) u1 a ra (by omega);have e2:=lA m (m+1+1) u2 b rb (by omega);simp only [List.map_cons,List.sum_cons,Pl.fstOf,Pl.sndOf,e1,e2];show _=([a,b].map (tsz m)).sum+_;simp only [List.map_cons,List.map_nil,List.sum_cons,List.sum_nil];omega
theorem vW{l:List Tr}(hA:AllD M m w vs l)(hB:∀x∈l,cL m x)(hp:l.all Pl.isPair=true)(q:Nat):(∀a∈l.map Pl.fstOf,cL q a)/\(∀a∈l.map Pl.sndOf,cL q a):=by
 have key:∀x∈l,∃a b,x=.agg [a,b]/\cL q a/\cL q b:=by
  intro x hx;obtain⟨i,hi⟩:=List.mem_iff_getElem?.1 hx;obtain⟨u,_,hr⟩:=hA.at_ hi;have hb:=mF m (q+1) u x hr (hB x hx);have hpx:=List.all_eq_true.1 hp x hx;unfold Pl.isPair at hpx;split at hpx
  ·next a b=>exact⟨a,b,rfl,hb a (by simp),hb b (by simp)⟩
  ·simp at hpx
 constructor
 ·intro a ha;obtain⟨x,hx,rfl⟩:=List.mem_map.1 ha;obtain⟨a,b,rfl,h1,_⟩:=key x hx;exact h1
 ·intro a ha;obtain⟨x,hx,rfl⟩:=List.mem_map.1 ha;obtain⟨a,b,rfl,_,h2⟩:=key x hx;exact h2
theorem let_sum{l:List Tr}{bd:Tr}(hA:AllD M m w vs l)(hp:l.all Pl.isPair=true):((tsz (m+1) (.agg (l.map Pl.fstOf))+tsz (m+1) bd)::(l.map Pl.sndOf).map (tsz (m+1))).sum=tsz (m+1) (.agg l)+tsz (m+1) bd:=by
 rw [List.sum_cons];show((l.map Pl.fstOf).map (tsz m)).sum+_+_=(l.map (tsz m)).sum+_
 cases m with
 | zero =>
  cases l with
  | nil=>simp
  | cons x r =>obtain⟨u,_,h⟩:=hA.at_ (i:=0) (x:=x) rfl;exact h.elim
 | succ m =>have:=vV hA hp;omega
theorem FmQ.from_{wz:World}{s:Sg}{tb mb:Nat}{ps:List (PV×PV)}{o:FR}{z:Nat}{ev:Value}{w':World}(h:FmQ M wz s tb mb ps o z v ev w')(hb:Below w.heap.size w wz):FmQ M w s tb mb ps o z v ev w':=⟨aM (aI hb) h.1,h.2⟩
theorem zW(m:Nat)(hF:FSaid (m+1))(hL:LamSaid (m+1))(M:Nat->Prop)(w wl:World)(s:Sg)(tb mb:Nat)(ps:List (PV×PV))(l:List Tr)(bd:Tr)(bs:List Value)(lv:Value)(vvs:List Value)(hR:Rdr M w s tb mb ps)(hb:Below w.heap.size w wl)(hA:AllD M m w bs l)(hB:∀x∈l,cL m x)(hBd:cL (m+1) bd)(hp:l.all Pl.isPair=true)(hlen:l.length<=1000)
  (hlv:RepP (fun k=>¬M k) (m+1+1) wl lv (.agg [.lit (.string Pl.lambdaW),.agg (l.map Pl.fstOf),bd])) (hV:AllD M m w vvs (l.map Pl.sndOf)) (hz:s.ns.length+(tsz (m+1) (.agg l)+tsz (m+1) bd)<=NsMax) (o:FR) (ho:o=fmF (Pl.letF (formOf (m+1)) (.agg l) bd) ps.length) :
  ∀(wz:World)(slz:Value),Below wl.heap.size wl wz->DRow M wz slz (lv::vvs)->Calls prog 156 #[.agg #[.pointer (some ⟨tb,0,none⟩)],slz] wz fun e w'=>∃v ev,e=.returned (.tuple #[v,ev])/\Hid (FmQ M w s tb mb ps o (tsz (m+1) (.agg l)+tsz (m+1) bd) v ev w'):=by
 intro wz slz hbz hS;have hbw:Below w.heap.size w wz:=hb.trans (hbz.mono hb.size);obtain⟨b1,b2⟩:=vW hA hB hp m;obtain⟨_,b3⟩:=vW hA hB hp (m+1);have hvl:vvs.length=l.length:=by have:=hV.1;simpa using this
 have hsum:=let_sum (bd:=bd) hA hp
 have:=p_call M wz s tb mb ps slz (lv::vvs) (fmF (Pl.lamF (formOf (m+1)) (.agg (l.map Pl.fstOf)) bd)::(l.map Pl.sndOf).map fun t=>fmF (formOf (m+1) t)) ((tsz (m+1) (.agg (l.map Pl.fstOf))+tsz (m+1) bd)::(l.map Pl.sndOf).map (tsz (m+1))) (hR.below hbw) hS (by simp [hvl]) (by simp) (by simp;omega) (by simp) (by rw [hsum];exact hz) (fun v hv=>by
   rcases List.mem_cons.1 hv with rfl | h
   ·obtain⟨T,x,e,_⟩:=hlv.iface;exact⟨T,x,e⟩
   ·exact hV.iface v h) (fun i v F z h1 h2 h3=>by
   cases i with
   | zero =>simp only [List.getElem?_cons_zero,Option.some.injEq] at h1 h2 h3;subst h1 h2 h3;exact hL M wz _ _ _ (hlv.go (Stp.of_below hbz)) b1 hBd
   | succ i =>
    rw [List.getElem?_cons_succ] at h1 h2 h3;rw [List.getElem?_map,Option.map_eq_some_iff] at h2 h3;obtain⟨t,ht,rfl⟩:=h2;obtain⟨t',ht',rfl⟩:=h3;rw [ht] at ht';obtain rfl:=Option.some.inj ht'
    exact hF M wz v t (RepP.up _ _ _ _ (Nat.le_succ _) ((hV.2 i v t h1 ht).go (Stp.of_below hbw))) (b3 t (List.mem_of_getElem? ht))) o (by rw [let_seq,ho,letF_ok hp])
 rw [hsum] at this;refine this.mono (fun e w' h=>?_);obtain⟨v,ev,h1,h2⟩:=h.one;exact⟨v,ev,h1,h2.from_ hbw⟩
end
open Pl (PFr Byt Env)
section
open Go.RowKit Go.Lib
variable {w w':World} {rb:Nat} {cs:Array Value} {M:Nat->Prop}
structure RunCh(w:World)(rb:Nat)(cs:Array Value)(w':World):Prop where
 os:w'.os=w.os
 tape:w'.tape=w.tape
 output:w'.output=w.output
 size:w.heap.size<=w'.heap.size
 blk:w'.heap[rb]?=some (.cells cs TRun (0,0))
 other:∀k,k<w.heap.size->k≠rb->w'.heap[k]?=w.heap[k]?
theorem RunCh.mv{cs0:Array Value}(h:RunCh w rb cs w')(hb:w.heap[rb]?=some (.cells cs0 TRun (0,0)))(hM:M rb):Mv M w M w' :=
 ⟨⟨h.os,h.tape,h.output,h.size,fun k hk hn=>⟨h.other k hk (fun e=>hn (by rw [e];exact hM)),hn⟩⟩,fun k hk hm=>⟨hm,by
  by_cases e:k=rb
  ·subst e;exact .inr ⟨cs0,TRun,(0,0),hb,by decide⟩
  ·exact .inl (h.other k hk e)⟩,fun hl k hk=>Nat.lt_of_lt_of_le (hl k hk) h.size⟩
theorem RunCh.after{w1:World}(h:RunCh w1 rb cs w')(hb:Below w.heap.size w w1):RunCh w rb cs w' :=⟨h.os.trans hb.os,h.tape.trans hb.tape,h.output.trans hb.output,Nat.le_trans hb.size h.size,h.blk,fun k hk e=>(h.other k (Nat.lt_of_lt_of_le hk hb.size) e).trans (hb.block k hk)⟩
theorem RunCh.trans{w1:World}{cs':Array Value}(h:RunCh w rb cs w1)(k:RunCh w1 rb cs' w'):RunCh w rb cs' w' :=⟨k.os.trans h.os,k.tape.trans h.tape,k.output.trans h.output,Nat.le_trans h.size k.size,k.blk,fun i hi e=>(k.other i (Nat.lt_of_lt_of_le hi h.size) e).trans (h.other i hi e)⟩
theorem RunCh.set{cs0:Array Value}(hb:w.heap[rb]?=some (.cells cs0 TRun (0,0)))(o:Nat)(v:Value)(hc:cs0.setIfInBounds o v=cs):RunCh w rb cs (w.setCell ⟨rb,o,none⟩ v) :=⟨rfl,rfl,rfl,by simp [World.setCell],by subst hc;exact aD hb o v,fun k _ e=>Below.heap_setCell _ _ _ _ (fun x=>e (by simpa using x))⟩
theorem RunCh.alloc(h:RunCh w rb cs w')(o:Obj):RunCh w rb cs (w'.alloc o) :=⟨h.os,h.tape,h.output,by simp;have:=h.size;omega,(Below.heap_alloc _ _ _ (aB h.blk)).trans h.blk,fun k hk e=>(Below.heap_alloc _ _ _ (Nat.lt_of_lt_of_le hk h.size)).trans (h.other k hk e)⟩
theorem RunCh.drew(h:RunCh w rb cs w'):RunCh w rb cs w'.drew:=⟨h.os,h.tape,h.output,h.size,h.blk,h.other⟩
theorem jF(w:World)(rb:Nat)(c0 c1 c2 c3 c4 c5 v:Value)(hb:w.heap[rb]?=some (.cells #[c0,c1,c2,c3,c4,c5] TRun (0,0)))(hv:∃T x,v=.iface T x) :Calls prog 169 #[.pointer (some ⟨rb,1,none⟩),v] w fun e w'=>e=.returned (.tuple #[])/\RunCh w rb #[c0,.nilIface,.pointer none,v,c4,c5] w':=by
 obtain⟨T,x,rfl⟩:=hv;have e1:w.cell? ⟨rb,1,none⟩=some c1:=aA hb 1;have e2:w.cell? ⟨rb,2,none⟩=some c2:=aA hb 2;have e3:w.cell? ⟨rb,3,none⟩=some c3:=aA hb 3;have f1:w.frozen? ⟨rb,1,none⟩=false:=aF hb 1;have f2:w.frozen? ⟨rb,2,none⟩=false:=aF hb 2;have f3:w.frozen? ⟨rb,3,none⟩=false:=aF hb 3;have HX:Hid (RunCh w rb #[c0,.nilIface,.pointer none,.iface T x,c4,c5] (((w.setCell ⟨rb,1,none⟩ .nilIface).setCell ⟨rb,2,none⟩ (.pointer none)).setCell ⟨rb,3,none⟩ (.iface T x))):=by have a1:=RunCh.set hb 1 .nilIface rfl;have a2:=RunCh.set a1.blk 2 (.pointer none) rfl;have a3:=RunCh.set a2.blk 3 (.iface T x) rfl;exact(a1.trans a2).trans a3
 clear hb;go_enter func169,ntmps169;go_wp2_with fail
 go_end0
 exact⟨rfl,HX.out⟩
theorem cU(w:World)(rb:Nat)(c0 c1 c2 c3 c4 c5 fv ev:Value)(hb:w.heap[rb]?=some (.cells #[c0,c1,c2,c3,c4,c5] TRun (0,0)))(hf:∃T x,fv=.iface T x)(he:∃o,ev=.pointer o) :Calls prog 172 #[.pointer (some ⟨rb,1,none⟩),fv,ev] w fun e w'=>e=.returned (.tuple #[])/\RunCh w rb #[c0,fv,ev,.nilIface,c4,c5] w':=by
 obtain⟨T,x,rfl⟩:=hf;obtain⟨o,rfl⟩:=he;have e1:w.cell? ⟨rb,1,none⟩=some c1:=aA hb 1;have e2:w.cell? ⟨rb,2,none⟩=some c2:=aA hb 2;have e3:w.cell? ⟨rb,3,none⟩=some c3:=aA hb 3;have f1:w.frozen? ⟨rb,1,none⟩=false:=aF hb 1;have f2:w.frozen? ⟨rb,2,none⟩=false:=aF hb 2;have f3:w.frozen? ⟨rb,3,none⟩=false:=aF hb 3;have HX:Hid (RunCh w rb #[c0,.iface T x,.pointer o,.nilIface,c4,c5] (((w.setCell ⟨rb,1,none⟩ (.iface T x)).setCell ⟨rb,2,none⟩ (.pointer o)).setCell ⟨rb,3,none⟩ .nilIface)):=by have a1:=RunCh.set hb 1 (.iface T x) rfl;have a2:=RunCh.set a1.blk 2 (.pointer o) rfl;have a3:=RunCh.set a2.blk 3 .nilIface rfl;exact(a1.trans a2).trans a3
 clear hb;go_enter func172,ntmps172;go_wp2_with fail
 go_end0
 exact⟨rfl,HX.out⟩
def PileN(w:World)(kv:Value)(n:Nat):Prop:=(kv=.pointer none/\n=0)\/∃b top up,kv=.pointer (some ⟨b,0,none⟩)/\w.heap[b]?=some (.cells #[top,up,.int .i64 (n:Int)] TPile (0,0))
theorem FrR.pileN{s:Sg}{kv:Value}{fs:List PFr}(h:FrR M w s kv fs):PileN w kv fs.length:=by
 cases fs with
 | nil=>exact .inl ⟨h,rfl⟩
 | cons f r =>obtain⟨b,top,up,h1,_,h3,_⟩:=h;exact .inr ⟨b,top,up,h1,h3⟩
theorem PileN.below{kv:Value}{n:Nat}(h:PileN w kv n)(hb:Below w.heap.size w w'):PileN w' kv n:=by
 rcases h with h | ⟨b,top,up,h1,h2⟩
 ·exact .inl h
 ·exact .inr ⟨b,top,up,h1,(hb.block b (aB h2)).trans h2⟩
theorem yK(w:World)(kv:Value)(n:Nat)(h:PileN w kv n):Calls prog 127 #[kv] w fun e w'=>e=.returned (.int .i64 (n:Int))/\w=w':=by
 rcases h with⟨rfl,rfl⟩ | ⟨b,top,up,rfl,hb⟩
 ·go_enter func127,ntmps127
  go_wp2_with fail
  go_ret;exact⟨rfl,rfl⟩
 ·have c2:w.cell? ⟨b,2,none⟩=some (.int .i64 (n:Int)):=aA hb 2;clear hb;go_enter func127,ntmps127;go_wp2_with fail;go_ret;exact⟨rfl,rfl⟩
theorem kS(w:World)(rb:Nat)(c0 c1 c2 c3 kv c5 f:Value)(n:Nat)(hb:w.heap[rb]?=some (.cells #[c0,c1,c2,c3,kv,c5] TRun (0,0)))(hf:∃T x,f=.iface T x)(hk:∃o,kv=.pointer o)(hp:PileN w kv n)(hn:n<=1000000000) :Calls prog 171 #[.pointer (some ⟨rb,1,none⟩),f] w fun e w'=>e=.returned (.tuple #[])/\∃p,w.heap.size<=p/\w'.heap[p]?=some (.cells #[f,kv,.int .i64 ((n+1:Nat):Int)] TPile (0,0))/\RunCh w rb #[c0,c1,c2,c3,.pointer (some ⟨p,0,none⟩),c5] w':=by
 obtain⟨T,x,rfl⟩:=hf;obtain⟨o,rfl⟩:=hk;have HC:Hid (∀w',Below w.heap.size w w'->Calls prog 127 #[.pointer o] w' fun e w2=>e=.returned (.int .i64 (n:Int))/\w'=w2):=fun w' hB=>yK w' _ n (hp.below hB);have e4:w.cell? ⟨rb,4,none⟩=some (.pointer o):=aA hb 4;have f4:w.frozen? ⟨rb,4,none⟩=false:=aF hb 4;have hw:IntKind.i64.wrap ((n:Int)+1)=((n+1:Nat):Int):=by rw [IntKind.wrap_i64];omega
 have hlt:=aB hb;have HB:Hid (w.heap[rb]?=some (.cells #[c0,c1,c2,c3,.pointer o,c5] TRun (0,0))):=hb;clear hb hp;go_enter func171,ntmps171;go_wp2_with fail;go_region_with (go_at_call 127;refine(HC.out _ ((Below.refl _ _).drew)).mono ?_;rintro e w' ⟨rfl,rfl⟩)
 all_goals
  go_wp2_with fail
  go_end0
  refine⟨rfl,w.heap.size,Nat.le_refl _,?_,?_⟩
  ·have h1:=heap_alloc_new (w.setCell ⟨rb,4,none⟩ (.pointer (some ⟨w.heap.size,0,none⟩))) (.cells #[.iface T x,.pointer o,.int .i64 ((n+1:Nat):Int)] TPile);rw [show(w.setCell ⟨rb,4,none⟩ (.pointer (some ⟨w.heap.size,0,none⟩))).heap.size=w.heap.size from by simp [World.setCell]] at h1;first | exact h1 | (rw [hw];exact h1)
  ·first | exact((RunCh.set HB.out 4 _ rfl).alloc _).drew | exact((RunCh.set HB.out 4 _ rfl).drew.alloc _)
theorem cV{l:List Byt}(hn:l.Nodup){i:Nat}{t:Byt}(h:l[i]?=some t):l.idxOf t=i:=by obtain⟨hi,rfl⟩:=List.getElem?_eq_some_iff.1 h;exact hn.idxOf_getElem i hi
theorem eN:∀(ns:List Byt)(base:Nat)(nm:Byt),nm∉ns->Pl.find (Pl.numb ns base) nm=none
 | [],_,_,_=>rfl
 | x::r,base,nm,h=>by simp only [List.mem_cons,not_or] at h;simp only [Pl.numb,Pl.find,eN r (base+1) nm h.2];rw [if_neg (fun e=>h.1 e.symm)]
theorem n9:∀(ns:List Byt)(base i:Nat)(nm:Byt),ns.Nodup->ns[i]?=some nm->Pl.find (Pl.numb ns base) nm=some (base+i)
 | [],_,_,_,_,h=>by simp at h
 | x::r,base,0,nm,hn,h=>by simp only [List.getElem?_cons_zero,Option.some.injEq] at h;subst h;simp only [List.nodup_cons] at hn;simp only [Pl.numb,Pl.find,eN r (base+1) x hn.1];simp
 | x::r,base,i+1,nm,hn,h=>by
  simp only [List.getElem?_cons_succ] at h;simp only [List.nodup_cons] at hn;simp only [Pl.numb,Pl.find,n9 r (base+1) i nm hn.2 h]
  congr 1
  omega
def EnvD(w:World):Nat->Value->Prop
 | 0,v=>v=.pointer none
 | n+1,v=>∃b nv sv up,v=.pointer (some ⟨b,0,none⟩)/\w.heap[b]?=some (.cells #[nv,sv,up] TSur (0,0))/\EnvD w n up
theorem EnvD.uniq:∀{n m:Nat} {v:Value},EnvD w n v->EnvD w m v->n=m
 | 0,0,_,_,_=>rfl
 | 0,m+1,v,h,k=>by
  obtain⟨b,_,_,_,e,_⟩:=k;rw [show v=.pointer none from h] at e
  cases e
 | n+1,0,v,h,k=>by
  obtain⟨b,_,_,_,e,_⟩:=h;rw [show v=.pointer none from k] at e
  cases e
 | n+1,m+1,v,h,k=>by obtain⟨b,nv,sv,up,rfl,h1,h2⟩:=h;obtain⟨b',nv',sv',up',e,k1,k2⟩:=k;simp only [Value.pointer.injEq,Option.some.injEq,Addr.mk.injEq,and_true] at e;subst e;rw [h1] at k1;simp only [Option.some.injEq,Obj.cells.injEq,Array.mk.injEq,List.cons.injEq,and_true] at k1;rw [k1.2.2] at h2;rw [EnvD.uniq h2 k2]
theorem EnvR.dep{s:Sg}{v:Value}{env:Env}(h:EnvR M w s v env):∃n,EnvD w n v:=by
 induction h with
 | nil=>exact⟨0,rfl⟩
 | cons b nv up ao cap base ns env hb _ _ _ _ _ ih =>obtain⟨n,hn⟩:=ih;exact⟨n+1,b,nv,_,up,rfl,hb,hn⟩
theorem dep_fun(w:World):∃dep:Value->Nat,∀v n,EnvD w n v->dep v=n :=⟨fun v=>Classical.epsilon (fun n=>EnvD w n v),fun _ _ h=>EnvD.uniq (Classical.epsilon_spec (p:=fun n=>EnvD w n _) ⟨_,h⟩) h⟩
def PlcQ(s:Sg)(env:Env)(nm:Byt)(e:Ending):Prop :=(Pl.find env nm=none/\e=.returned (.pointer none))\/(∃i g o,Pl.find env nm=some i/\s.lp[i]?=some (some (g,o))/\e=.returned (.pointer (some ⟨g,o,none⟩)))
theorem nm_cell{ao:Option Addr}{n cap:Nat}{ns:List Byt}{ks:List Nat}(h:Sl M w TNam 2 (.slice ao n cap) ns.length (d7 ns ks)){i k:Nat}{t:Byt}(ht:ns[i]?=some t)(hk:ks[i]?=some k) :∃g off,ao=some ⟨g,off,none⟩/\g<w.heap.size/\n=ns.length/\ns.length<=cap/\w.cell? ⟨g,off+i*2,none⟩=some (.string ⟨t.toArray⟩)/\w.cell? ⟨g,off+i*2+1,none⟩=some (.int .i64 (k:Int)):=by
 obtain⟨_,ao',cap',e,hc,h3⟩:=h;simp only [Value.slice.injEq] at e;obtain⟨rfl,rfl,rfl⟩:=e;have hi:=(List.getElem?_eq_some_iff.1 ht).1;rcases h3 with h0 | ⟨g,off,cur,rfl,_,hg,hcur⟩
 ·omega
 ·have hz:(List.zip ns ks)[i]?=some (t,k):=by rw [List.getElem?_zip_eq_some];exact⟨ht,hk⟩
  have key:∀j,j<2->(d7 ns ks)[i*2+j]?=(gU t k)[j]? := fun j hj=>by unfold d7;exact aX (fun p=>gU p.1 p.2) 2 (fun _=>rfl) _ i j (t,k) hz hj
  refine⟨g,off,rfl,aB hg,rfl,hc,?_,?_⟩
  ·rw [aA hg];exact hcur (i*2) _ (key 0 (by decide))
  ·rw [Nat.add_assoc,aA hg];exact hcur (i*2+1) _ (key 1 (by decide))
theorem uW(M:Nat->Prop)(w:World)(s:Sg)(ev:Value)(env:Env)(nm:Byt)(k:Nat)(hn:s.ns.Nodup)(he:EnvR M w s ev env)(hk:s.ns[k]?=some nm) :Calls prog 194 #[ev,.agg #[.string ⟨nm.toArray⟩,.int .i64 (k:Int)]] w fun e w'=>Below w.heap.size w w'/\PlcQ s env nm e:=by
 have HN:Hid (s.ns.Nodup):=hn;have HE:Hid (EnvR M w s ev env):=he;have HK:Hid (s.ns[k]?=some nm):=hk;obtain⟨dep,hdep⟩:=dep_fun w;have HD:Hid (∀v n,EnvD w n v->dep v=n):=hdep;have hB1:Below w.heap.size w (w.alloc (.cells #[.string ⟨nm.toArray⟩,.int .i64 (k:Int)] TNam)):=(Below.refl _ _).alloc (Nat.le_refl _) _;have HB1:Hid (Below w.heap.size w (w.alloc (.cells #[.string ⟨nm.toArray⟩,.int .i64 (k:Int)] TNam))):=hB1;clear hn he hk hdep hB1;go_enter func194,ntmps194;go_wp2_with fail
 go_loopw [0] (fun v wr=>∃env',Hid (EnvR M w s v env'/\Pl.find env nm=Pl.find env' nm/\Below w.heap.size w wr/\wr.heap[w.heap.size]?=some (.cells #[.string ⟨nm.toArray⟩,.int .i64 (k:Int)] TNam (0,0)))) (fun v _=>dep v)
 case atStart=>exact⟨env,HE.out,rfl,HB1.out,heap_alloc_new w _⟩
 case round =>
  obtain⟨env',HI⟩:=hrel;obtain⟨he',hf',hB',hbox⟩:=HI.out
  cases he' with
  | nil =>have HF:Hid (Pl.find env nm=none):=hf';have HB:Hid (Below w.heap.size w wr):=hB';clear hf' hB' hbox HI;go_wp2_with fail;go_ret;exact⟨HB.out,.inl ⟨HF.out,rfl⟩⟩
  | cons b nv up ao cap base ns env2 hb hm hnm hcap hp hup =>
   obtain⟨⟨ks,hks,hsl⟩,hnd,hlen⟩:=hnm;have hsl0:=hsl;obtain⟨_,ao2,cap2,rfl,hcap2,_⟩:=hsl0;have HX:Hid (EnvR M w s up env2/\Pl.find env nm=Pl.find (env2++Pl.numb ns base) nm/\w.heap[b]?=some (.cells #[.slice ao2 ns.length cap2,.slice ao ns.length cap,up] TSur (0,0))/\All2 (fun k t=>s.ns[k]?=some t) ks ns/\Sl M w TNam 2 (.slice ao2 ns.length cap2) ns.length (d7 ns ks)/\ns.Nodup/\ns.length<=1000):=⟨hup,hf',hb,hks,hsl,hnd,hlen⟩
   have HP:Hid (∀i,i<ns.length->∃g off,ao=some ⟨g,off,none⟩/\s.lp[base+i]?=some (some (g,off+i))):=hp;have HB:Hid (Below w.heap.size w wr):=hB';have hbl:=aB hb;have hbr:=(hB'.block b hbl).trans hb;have c0:wr.cell? ⟨b,0,none⟩=some (.slice ao2 ns.length cap2):=aA hbr 0;have HBx:Hid (wr.heap[w.heap.size]?=some (.cells #[.string ⟨nm.toArray⟩,.int .i64 (k:Int)] TNam (0,0))):=hbox;clear hb hm hks hsl hnd hlen hp hup hf' hB' hbr hbox HI;go_wp2_with fail
   go_loopw [18] (fun iv wq=>∃i:Nat,iv=.int .i64 (i:Int)/\i<=ns.length/\Hid (Below w.heap.size w wq/\wq.heap[w.heap.size]?=some (.cells #[.string ⟨nm.toArray⟩,.int .i64 (k:Int)] TNam (0,0))/\∀j,j<i->ns[j]? ≠ some nm)) (fun iv _=>ns.length-(RowKit.intOf iv).toNat)
   case atStart=>exact⟨0,rfl,Nat.zero_le _,HB.out,HBx.out,fun j hj=>absurd hj (Nat.not_lt_zero _)⟩
   case round =>
    obtain⟨i,rfl,hi,HQ⟩:=hrel;have hln:=HX.out.2.2.2.2.2.2;obtain⟨hBq,hboxq,hnoq⟩:=HQ.out;by_cases hil:i<ns.length
    ·obtain⟨t,ht⟩:∃t,ns[i]?=some t:=⟨_,List.getElem?_eq_getElem hil⟩
     obtain⟨k2,hk2,hsk⟩:=HX.out.2.2.2.1.at_ ht;obtain⟨g2,off2,rfl,hg2,_,_,d0,d1⟩:=nm_cell HX.out.2.2.2.2.1 ht hk2;have d0':=(hBq.cell (p:=⟨g2,off2+i*2,none⟩) hg2).trans d0;have d1':=(hBq.cell (p:=⟨g2,off2+i*2+1,none⟩) hg2).trans d1;have b0:wr.cell? ⟨w.heap.size,1,none⟩=some (.int .i64 (k:Int)):=aA hboxq 1;have hbx:w.heap.size<wr.heap.size:=aB hboxq;have hil2:(i:Int)<(ns.length:Int):=by omega
     have h0:(0:Int)<=(i:Int):=by omega
     have hbq:=(hBq.block b hbl).trans HX.out.2.2.1;have c1:wr.cell? ⟨b,1,none⟩=some (.slice ao ns.length cap):=aA hbq 1;have hblq:b<wr.heap.size:=aB hbq;have HBq:Hid (Below w.heap.size w wr):=hBq;have HBoxq:Hid (wr.heap[w.heap.size]?=some (.cells #[.string ⟨nm.toArray⟩,.int .i64 (k:Int)] TNam (0,0))):=hboxq;have HNo:Hid (∀j,j<i->ns[j]? ≠ some nm):=hnoq;by_cases hkk:k2=k
     ·subst hkk;have htn:t=nm:=by have:=hsk.symm.trans HK.out;exact Option.some.inj this
      subst htn;obtain⟨g,off,rfl,hlp⟩:=HP.out i hil;have HF:Hid (PlcQ s env t (.returned (.pointer (some ⟨g,off+i,none⟩)))):=.inr ⟨base+i,g,off+i,by rw [HX.out.2.1,Pl.find_append,n9 ns base i t HX.out.2.2.2.2.2.1 ht],hlp,rfl⟩;clear hBq hboxq hnoq d0 d1 hbq hlp ht hk2 hsk HQ;go_wp2_with fail;go_ret;exact⟨(HBq.out.alloc HBq.out.size _),HF.out⟩
     ·have hne:((k2:Int)==(k:Int))=false:=beq_eq_false_iff_ne.2 (by omega);have htn:t≠nm:=fun e=>by subst e;refine hkk ?_;have h1:=cV HN.out hsk;have h2:=cV HN.out HK.out;omega
      have HT:Hid (t≠nm/\ns[i]?=some t):=⟨htn,ht⟩
      clear hBq hboxq hnoq d0 d1 hbq ht hk2 hsk HQ htn hkk;go_wp2_with fail
      go_roundw
      case rel =>
       refine⟨i+1,by go_num,hil,HBq.out.alloc HBq.out.size _,(Below.heap_alloc _ _ _ hbx).trans HBoxq.out,fun j hj e=>?_⟩;rcases Nat.lt_or_ge j i with hj2 | hj2
       ·exact HNo.out j hj2 e
       ·obtain rfl:j=i:=by omega
        rw [HT.out.2] at e;exact HT.out.1 (Option.some.inj e)
      case measure=>simp only [RowKit.intOf];omega
    ·have hil2:i=ns.length:=by omega
     subst hil2;have HNn:Hid (nm∉ns):=fun hmem=>by obtain⟨j,hj⟩:=List.getElem?_of_mem hmem;exact hnoq j (List.getElem?_eq_some_iff.1 hj).1 hj
     have hbq:=(hBq.block b hbl).trans HX.out.2.2.1;obtain⟨ou,rfl⟩:=HX.out.1.ptr;have c2:wr.cell? ⟨b,2,none⟩=some (.pointer ou):=aA hbq 2;have HBq:Hid (Below w.heap.size w wr):=hBq;have HBoxq:Hid (wr.heap[w.heap.size]?=some (.cells #[.string ⟨nm.toArray⟩,.int .i64 (k:Int)] TNam (0,0))):=hboxq;clear hBq hboxq hnoq hbq HQ;go_wp2_with fail
     go_roundw
     case rel =>refine⟨env2,HX.out.1,?_,HBq.out,HBoxq.out⟩;rw [HX.out.2.1,Pl.find_append,eN ns base nm HNn.out]
     case measure =>obtain⟨n,hn⟩:=HX.out.1.dep;rw [HD.out _ n hn,HD.out _ (n+1) ⟨b,_,_,_,rfl,HX.out.2.2.1,hn⟩];omega
end
end Go.Proofs.YtkgbdddkcjpgfaaGreatDoor
