import Derived.Test.YtkgbdddkcjpgfaaGreatDoorC12
import Derived.Laws.OwnMore
import Derived.Deep.RegionLaw
import Derived.Test.YtkgbdddkcjpgfaaGreatDoorC05
import Derived.Test.YtkgbdddkcjpgfaaGreatDoorC14
namespace Go.Proofs.YtkgbdddkcjpgfaaGreatDoor
set_option maxHeartbeats 4000000
set_option maxRecDepth 100000
open Go.Proofs.Tryz
open Pl (PV PW PF PFr FR formOf tsz mkF fmF)
section
open Go.RowKit
variable {w w0 w':World} {vs qs cs:List Value} {M:Nat->Prop} {n base wb m:Nat} {v pv qv cv lv gv lv':Value}
theorem vZ{f:Tr->Option PF}{ts:List Tr}(h:¬ts.length=2):Pl.lam2F f ts=none:=by
 match ts,h with
 | [],_=>rfl
 | [_],_=>rfl
 | _::_::_::_,_=>rfl
theorem zZ{f:Tr->Option PF}{a b:Tr}(h:eJ a=false):Pl.lamF f a b=none:=by
 unfold Pl.lamF;unfold eJ at h;split
 ·rw [if_neg (by simpa using h)]
 ·rfl
theorem lamF_ok{l:List Tr}{b:Tr}(h:Pl.namesOk l=true)(q:Nat):fmF (Pl.lamF (formOf n) (.agg l) b) q=(fmF (formOf n b) q).map fun r=>(mkF .lambda [] .nil [r.1] (l.map Pl.strOf),r.2):=by
 simp only [Pl.lamF,h,if_true]
 cases formOf n b with
 | none=>rfl
 | some f=>simp [fmF,mkF,Pl.settle_other,Pl.settleL_cons,Pl.settleL_nil]
theorem qQ(n:Nat)(hF:FSaid n)(M:Nat->Prop)(w:World)(s:Sg)(tb mb:Nat)(ps:List (PV×PV))(sl:Value)(vs:List Value)(ts:List Tr)(hR:Rdr M w s tb mb ps)(hS:DRow M w sl vs)(hA:AllD M n w vs ts)(hB:∀x∈ts,cL n x)(hz:s.ns.length+(ts.map (tsz n)).sum<=NsMax)(o:FR)(ho:o=fmF (Pl.lam2F (formOf n) ts) ps.length) :Calls prog 154 #[rdV tb,sl] w fun e w'=>FmPost M w s tb mb ps o (ts.map (tsz n)).sum e w':=by
 have HR:Hid (Rdr M w s tb mb ps):=hR;have hvl:=hA.1;unfold rdV;by_cases h2:ts.length=2
 ·obtain⟨t1,t2,rfl⟩:=fO h2;obtain⟨u1,u2,rfl⟩:=fO (hvl.trans h2);have r1:=hA.2 0 u1 t1 rfl rfl;have r2:=hA.2 1 u2 t2 rfl rfl;have hz':s.ns.length+tsz n t1+tsz n t2<=NsMax:=by simp only [List.map_cons,List.map_nil,List.sum_cons,List.sum_nil] at hz;omega
  have HZ:Hid (s.ns.length+tsz n t1+tsz n t2<=NsMax/\tsz n t1+tsz n t2=([t1,t2].map (tsz n)).sum):=⟨hz',by simp⟩
  have HB1:=bB w (rdO tb);have HNs:Hid (Calls prog 190 #[.agg #[.pointer (some ⟨tb,0,none⟩)],u1] (w.alloc (rdO tb)).drew fun e w'=>∃v2 ev,e=.returned (.tuple #[v2,ev])/\Hid (NsPost M (w.alloc (rdO tb)).drew s tb mb ps t1 (tsz n t1) v2 ev w')) :=p_names n M _ s tb mb ps u1 t1 (hR.below HB1.drew) (r1.go (Stp.of_below HB1.drew)) (hB t1 (by simp)) (by omega);have HF2:Hid (FCall M w u2 (fmF (formOf n t2)) (tsz n t2)):=hF M w u2 t2 r2 (hB t2 (by simp));have HO:Hid (o=fmF (Pl.lamF (formOf n) t1 t2) ps.length):=ho;obtain⟨T1,x1,rfl,o1⟩:=r1.iface;obtain⟨T2,x2,rfl,o2⟩:=r2.iface;obtain⟨g,off,cap,rfl,hcap,hg,k0,ks⟩:=(Sl.slOf hS).cell0;have k1:=ks 0 _ rfl;simp only [Nat.zero_add,List.length_cons,List.length_nil] at k1 hcap ⊢;have HCell:Hid (∀wx:World,w.grownBy wx (some mb)->wx.cell? ⟨g,off+1,none⟩=some (.iface T2 x2)):=fun wx hgx=>wQ hS hgx HR.out.mmb 1 _ rfl;have HMb:Hid (mb<w.heap.size):=HR.out.tab.lt.2;have HG1:Hid (Below w.heap.size w (w.alloc (rdO tb)).drew):=HB1.drew;have HW1:Hid ((w.alloc (rdO tb)).heap[w.heap.size]?=some (rdO tb)):=heap_alloc_new _ _;clear hA hB hF r1 r2 hvl h2 ks hR o1 o2 hz ho hS HB1 hz';go_enter func154,ntmps154
  go_upto_region 40 with fail
  go_cut [6,7] (fun v6 e7 wx=>Hid (NsPost M (w.alloc (rdO tb)).drew s tb mb ps t1 (tsz n t1) v6 e7 wx))
  case first =>
   go_region_with (go_at_call 190;refine Calls.mono HNs.out ?_;rintro e w2 ⟨v,ev,rfl,HQ⟩)
   all_goals
    go_wp2_with fail
    go_meet
    exact HQ
  case rest =>
   obtain⟨wa,hwa⟩:∃wa,wa=wc:=⟨_,rfl⟩
   subst hwa;obtain⟨hga,t',hsg,hpb,hnl,hrd,hcase⟩:=hcut.out;have HGa:Hid (w.grownBy wa (some mb)):=aM (aI HG1.out) hga;have c0:wa.cell? ⟨w.heap.size,0,none⟩=some (.pointer (some ⟨tb,0,none⟩)):=by have:=(hga.block w.heap.size (by show _<(w.alloc _).heap.size;simp) (by have:=HMb.out;simp;omega)).trans HW1.out;exact aA this 0
   have c1:=HCell.out wa HGa.out;rcases hcase with⟨l,rfl,hok,he,hnr⟩ | ⟨hno,es,he⟩
   ·subst he;have HFc:Hid (Calls prog 67 #[.agg #[.pointer (some ⟨tb,0,none⟩)],.iface T2 x2] wa.drew fun e w'=>∃v ev,e=.returned (.tuple #[v,ev])/\Hid (FmQ M wa.drew t' tb mb ps (fmF (formOf n t2) ps.length) (tsz n t2) v ev w')) :=(HF2.out M wa.drew t' tb mb ps ((eL HGa.out HR.out.mmb).trans (Stp.of_below (Below.refl _ _).drew)) (hrd.below (Below.refl _ _).drew) (by have:=HZ.out.1;omega)).mono (fun e w' h=>h.one);have HNr:Hid (NmRow M wa t' u6 (l.map Pl.strOf)):=hnr;have HT1:Hid (SgR s t'/\t'.pb=s.pb/\t'.ns.length<=s.ns.length+tsz n (.agg l)):=⟨hsg,hpb,hnl⟩
    have HO2:Hid (o=(fmF (formOf n t2) ps.length).map fun r=>(mkF .lambda [] .nil [r.1] (l.map Pl.strOf),r.2)):=HO.out.trans (lamF_ok hok _);obtain⟨ksn,hks,hsl⟩:=hnr.ex;simp only [List.length_map] at hsl;obtain⟨_,ao6,cap6,rfl,_⟩:=hsl;clear hcut hga hsg hpb hnl hrd hok HNs k0 k1 hks
    go_upto_region 40 with fail
    go_cut [7,8] (fun e7 v8 wy=>Hid (FmQ M wa.drew t' tb mb ps (fmF (formOf n t2) ps.length) (tsz n t2) v8 e7 wy))
    case first =>
     go_region_with (go_at_call 67;refine Calls.mono HFc.out ?_;rintro e w2 ⟨v,ev,rfl,HQ⟩)
     all_goals
      go_wp2_with fail
      go_meet
      exact HQ
    case rest =>
     obtain⟨hgy,t3,hsg3,hnl3,hcase⟩:=hcut.out;have HG:Hid (w.grownBy wc (some mb)):=aM HGa.out ⟨hgy.os,hgy.tape,hgy.output,hgy.size,hgy.block⟩
     have HT:Hid (SgR s t3/\t3.ns.length<=s.ns.length+([.agg l,t2].map (tsz n)).sum):=⟨HT1.out.1.trans hsg3,by
      have h1:=HT1.out.2.2;have h2:=HZ.out.2
      omega⟩
     rcases hcase with⟨r,hr,he,hrd,hrep⟩ | ⟨hr,hpb,hrd,es,he⟩
     ·subst he;have HO3:Hid (o=some (mkF .lambda [] .nil [r.1] (l.map Pl.strOf),r.2)):=show o=_ from by rw [HO2.out,hr];rfl
      have HX:Hid (Rdr M wc t3 tb mb (ps++r.2)/\RFm M wc t3 (.iface 329 (.agg #[.slice ao6 l.length cap6,u8])) (mkF .lambda [] .nil [r.1] (l.map Pl.strOf))):=⟨hrd,.lambda _ _ _ [] .nil .nothing _ (HNr.out.go (eL ⟨hgy.os,hgy.tape,hgy.output,hgy.size,hgy.block⟩ HR.out.mmb) hsg3.le) hrep⟩
      obtain⟨T9,x9,rfl⟩:=hrep.iface;clear hcut hgy hsg3 hnl3 hr hrd hrep;go_wp2_with fail;go_ret2;exact⟨HG.out,t3,HT.out.1,HT.out.2,.inl ⟨_,_,HO3.out,rfl,HX.out.1,HX.out.2⟩⟩
     ·subst he;have HO3:Hid (o=none):=show o=_ from by rw [HO2.out,hr];rfl
      have HX:Hid (Rdr M wc t3 tb mb ps/\t3.pb=s.pb):=⟨hrd,hpb.trans HT1.out.2.1⟩
      clear hcut hgy hsg3 hnl3 hr hrd hpb;unfold aY;go_wp2_with fail;go_ret2;exact⟨HG.out,t3,HT.out.1,HT.out.2,.inr ⟨HO3.out,HX.out.2,HX.out.1,_,_,rfl⟩⟩
   ·subst he;have HO3:Hid (o=none):=show o=_ from by rw [HO.out,zZ hno];rfl
    have HX:Hid (Rdr M wa t' tb mb ps/\t'.pb=s.pb):=⟨hrd,hpb⟩
    have HT:Hid (SgR s t'/\t'.ns.length<=s.ns.length+([t1,t2].map (tsz n)).sum):=⟨hsg,by have:=HZ.out.2;omega⟩
    clear hcut hga hsg hnl hrd hpb hno HNs k0 k1;unfold aY;go_wp2_with fail;go_ret2;exact⟨HGa.out,t',HT.out.1,HT.out.2,.inr ⟨HO3.out,HX.out.2,HX.out.1,_,_,rfl⟩⟩
 ·have HE:Hid (o=none):=show o=none from by rw [ho,vZ h2];rfl
  obtain⟨ao,cap,rfl,_⟩:=Sl.slOf hS;have hne:((vs.length:Int)!=2)=true:=by simp;omega
  clear hS hA hB hR h2 hvl ho hF hz;go_enter func154,ntmps154;go_wp2_with (go_at_call 149;refine(aS _ _).mono ?_;rintro e w' ⟨rfl,rfl⟩);go_ret2;exact⟨aI (bB w _),s,SgR.refl _,Nat.le_add_right _ _,.inr ⟨HE.out,rfl,HR.out.below (bB w _),_,_,rfl⟩⟩
theorem iV{P:Program}(t ty e:TypeId)(i:TypeInfo)(ht:P.underlying t=some (.slice e))(hi:P.info? e=some i)(ad:Addr)(n cap:Nat)(hnc:n<=cap)(p:Option Addr)(c:Nat) :(Builtin.append_ #[t,t] ty #[.slice (some ad) n cap,.slice p 0 c]).run P w=.ok (.slice (some ad) n cap) w:=by cases p<;>simp [Builtin.append_,run_underlying ht,sizeOf,typeInfo,hi,Builtin.lenOf,Builtin.firstCells,hnc,storeCells,loadCells,loadCellsFrom]
theorem iC{P:Program}{ops:Array Oper}{o:Oper}{a:Act}{K:Act->World->Prop}{Q:Exit->Act->World->Prop}{E:Prop}(hgd:o.guard=none)(s x:Operand)(t:TypeId)
  (ho:o.op=.call {callee:=.builtin .append,args:=#[s,x],argTypes:=#[t,t]})
  (e:TypeId) (i:TypeInfo) (ht:P.underlying t=some (.slice e)) (hi:P.info? e=some i)
  (ad:Addr) (n cap:Nat) (hnc:n<=cap) (p:Option Addr) (c:Nat) (hs:a.eval s=.slice (some ad) n cap) (hx:a.eval x=.slice p 0 c)
  (h:K (a.put o.dst (.slice (some ad) n cap)) w):if Region.wanted o (yielded ops a.tmps)=true then Oper.wp P o a w K Q else E:=by
 have hw:Region.wanted o (yielded ops a.tmps)=true:=by simp [Region.wanted,hgd]
 rw [if_pos hw];have hrun:=iV (P:=P) (w:=w) t o.type e i ht hi ad n cap hnc p c;unfold Oper.wp;simp [execOp,ho,resolve,invoke,builtin,hs,hx,hrun,Result.andThen];exact h
theorem tP{P:Program}{ops:Array Oper}{o:Oper}{a:Act}{K:Act->World->Prop}{Q:Exit->Act->World->Prop}{E:Prop}(hgd:o.guard=none)(f:FuncId)(xs:Array Operand)(ts:Array TypeId)
  (ho:o.op=.call {callee:=.value (.func f),args:=xs,argTypes:=ts}) {fn:Func} {c:Code} (hf:P.funcs[f]?=some fn) (hname:(fn.name == "runtime.NumGoroutine")=false) (hb:fn.body=some c)
  (vals:Array Value) (hv:xs.map a.eval=vals) {R:Ending->World->Prop} (hC:Calls P f vals w R) (h:∀e w',R e w'->∃v,e=.returned v/\K (a.put o.dst v) w'):if Region.wanted o (yielded ops a.tmps)=true then Oper.wp P o a w K Q else E:=by
 have hw:Region.wanted o (yielded ops a.tmps)=true:=by simp [Region.wanted,hgd]
 rw [if_pos hw];have hrun:=Go.MuLone.run_callFunc_enter (P:=P) hf hname hb vals w;have hx:(execOp a.eval o).run P w=.ok (.enter f vals) w:=by subst hv;simp [execOp,ho,resolve,invoke,Deferred.ofValue,Act.eval,hrun]
 unfold Oper.wp;rw [hx,Oper.upon_enter];refine hC.mono (fun e w' hr=>?_);obtain⟨v,rfl,hk⟩:=h e w' hr;exact hk
theorem kO{P:Program}{ops:Array Oper}{o:Oper}{a:Act}{K:Act->World->Prop}{Q:Exit->Act->World->Prop}{E:Prop}(hgd:o.guard=none)(f:FuncId)(x1 x2:Operand)(ts:Array TypeId)
  (ho:o.op=.call {callee:=.value (.func f),args:=#[x1,x2],argTypes:=ts}) {fn:Func} {c:Code} (hf:P.funcs[f]?=some fn) (hname:(fn.name == "runtime.NumGoroutine")=false) (hb:fn.body=some c)
  (v1 v2:Value) (h1:a.eval x1=v1) (h2:a.eval x2=v2) {R:Ending->World->Prop} (hC:Calls P f #[v1,v2] w R) (h:∀e w',R e w'->∃v,e=.returned v/\K (a.put o.dst v) w'):if Region.wanted o (yielded ops a.tmps)=true then Oper.wp P o a w K Q else E :=
 tP hgd f #[x1,x2] ts ho hf hname hb #[v1,v2] (by simp [h1,h2]) hC h
structure QInv(w wr:World)(a b:Nat)(nS vS:Value)(nvs vvs:List Value):Prop where
 below:Below w.heap.size w wr
 nrow:wr.ownsRow w.heap.size PT 1 nS a nvs
 vrow:wr.ownsRow w.heap.size PT 1 vS b vvs
 apart:∀r,nS.ownBlock=some r->vS.ownBlock≠some r
theorem qT(w:World)(e:TypeId)(h:base<=w.heap.size):(w.alloc (.cells #[] e)).ownsRow base e 1 (.slice (some ⟨w.heap.size,0,none⟩) 0 0) 0 [] :=⟨rfl,.inr ⟨w.heap.size,0,#[],rfl,h,heap_alloc_new _ _,Nat.le_refl _,by unfold maxLen;omega,rfl,rfl⟩⟩
theorem QInv.start(w:World):Hid (QInv w ((w.alloc (.cells #[] PT)).alloc (.cells #[] PT)) 0 0 (.slice (some ⟨w.heap.size,0,none⟩) 0 0) (.slice (some ⟨w.heap.size+1,0,none⟩) 0 0) [] []):=by
 have e:(w.alloc (.cells #[] PT)).heap.size=w.heap.size+1:=by simp
 refine QInv.mk (((Below.refl _ _).alloc (Nat.le_refl _) _).alloc (by simp) _) ((qT w PT (Nat.le_refl _)).alloc _) ?_ (fun r h=>by simp [Value.ownBlock] at h ⊢;omega);rw [<- e];exact qT _ PT (by simp)
theorem kV{a b:World}{x:Value}(h:a.ownsRow base PT 1 v n vs)(hg:a.grownBy b x.ownBlock)(hap:∀r,v.ownBlock=some r->x.ownBlock≠some r):b.ownsRow base PT 1 v n vs:=by
 refine⟨h.1,?_⟩;rcases h.2 with hn | ⟨g,cap,cur,hv,h0,hx,rest⟩
 ·exact .inl hn
 ·refine .inr ⟨g,cap,cur,hv,h0,?_,rest⟩;rw [hg.block g (aB hx) (fun e=>hap g (by rw [hv];rfl) e.symm)];exact hx
theorem QInv.pushN{wr w3:World}{a b:Nat}{nS vS:Value}{nvs vvs:List Value}(h:QInv w wr a b nS vS nvs vvs){o:Obj}{g' cap':Nat}{u:Value}
  (hown:w3.ownsRow w.heap.size PT 1 (.slice (some ⟨g',0,none⟩) (a+1) cap') (a+1) (nvs++[u])) (hg:(wr.alloc o).grownBy w3 nS.ownBlock) (hat:nS.ownBlock=some g'\/g'=wr.heap.size+1) :
  QInv w w3 (a+1) b (.slice (some ⟨g',0,none⟩) (a+1) cap') vS (nvs++[u]) vvs:=by
 have hrl:=h.nrow.lt;refine⟨?_,hown,kV (h.vrow.alloc o) hg (fun r hr e=>h.apart r e hr),?_⟩
 ·refine(h.below.alloc h.below.size o).grown hg ?_ ?_
  ·have:=h.below.size;simp;omega
  ·intro k hk;have:=(hrl k hk).1;omega
 ·intro r hr;simp only [Value.ownBlock,Option.some.injEq] at hr;subst hr;rcases hat with h1 | h1
  ·exact h.apart _ h1
  ·intro e;have:=(h.vrow.lt _ e).2;omega
theorem QInv.pushV{wr w3:World}{a b:Nat}{nS vS:Value}{nvs vvs:List Value}(h:QInv w wr a b nS vS nvs vvs){o:Obj}{g' cap':Nat}{u:Value}
  (hown:w3.ownsRow w.heap.size PT 1 (.slice (some ⟨g',0,none⟩) (b+1) cap') (b+1) (vvs++[u])) (hg:(wr.alloc o).grownBy w3 vS.ownBlock) (hat:vS.ownBlock=some g'\/g'=wr.heap.size+1) :
  QInv w w3 a (b+1) nS (.slice (some ⟨g',0,none⟩) (b+1) cap') nvs (vvs++[u]):=by
 have hrl:=h.vrow.lt;refine⟨?_,kV (h.nrow.alloc o) hg h.apart,hown,?_⟩
 ·refine(h.below.alloc h.below.size o).grown hg ?_ ?_
  ·have:=h.below.size;simp;omega
  ·intro k hk;have:=(hrl k hk).1;omega
 ·intro r hr e;simp only [Value.ownBlock,Option.some.injEq] at e;subst e;rcases hat with h1 | h1
  ·exact h.apart _ hr h1
  ·have:=(h.nrow.lt _ hr).2;omega
theorem zL(h:w.ownsRow base PT 1 v n vs):w.ownsRow 0 PT 1 v n vs:=⟨h.1,h.2.imp id (fun⟨g,cap,cur,a,_,c⟩=>⟨g,cap,cur,a,Nat.zero_le _,c⟩)⟩
theorem qU(w:World)(e:TypeId)(h:base<=w.heap.size)(u:Value):(w.alloc (.cells #[u] e)).ownsRow base e 1 (.slice (some ⟨w.heap.size,0,none⟩) 1 1) 1 [u] :=⟨rfl,.inr ⟨w.heap.size,1,#[u],rfl,h,heap_alloc_new _ _,Nat.le_refl _,by unfold maxLen;omega,rfl,rfl⟩⟩
theorem own_rep{ts:List Tr}(hM:∀k,M k->k<base)(h:AllD M n w vs ts)(hr:w.ownsRow base PT 1 v ts.length vs)(hl:ts.length<=1000):RepP (fun k=>¬M k) (n+1) w (.iface 115 v) (.agg ts) :=⟨v,vs,rfl,fun r hr' hm=>by have:=(hr.lt r hr').1;have:=hM r hm;omega,zL hr,h.2,hl⟩
theorem qV(hM:∀k,M k->k<base)(hr:w.ownsRow base PT 1 v n vs):DRow M w v vs:=by
 have hl:vs.length=n:=hr.1.trans (Nat.mul_one _);refine⟨by simp,?_⟩;rcases hr.2 with⟨hv,h0⟩ | ⟨g,cap,cur,hv,hge,hg,hc,_,_,ht⟩
 ·exact⟨none,0,by rw [hl,h0];exact hv,by omega,.inl (by omega)⟩
 ·refine⟨some ⟨g,0,none⟩,cap,by rw [hl];exact hv,by omega,.inr ⟨g,0,cur,rfl,fun x=>by have:=hM g x;omega,hg,?_⟩⟩;intro i u hu;rw [Nat.zero_add];rw [<- ht,List.getElem?_take] at hu;split at hu
  ·simpa using hu
  ·cases hu
theorem rR{nv bv:Value}{ns bd:Tr}(hM:∀k,M k->k<w.heap.size)(hn:RepP (fun k=>¬M k) n w nv ns)(hb:RepP (fun k=>¬M k) n w bv bd)(o:Obj)(ho:o=.cells #[.iface 117 (.string ⟨#[108,97,109,98,100,97]⟩),nv,bv] PT (0,0)) :RepP (fun k=>¬M k) (n+1) (w.alloc o) (.iface 115 (.slice (some ⟨w.heap.size,0,none⟩) 3 3)) (.agg [.lit (.string Pl.lambdaW),ns,bd]):=by
 have hlt:Below w.heap.size w (w.alloc o):=bB w o;refine⟨_,[.iface 117 (.string ⟨#[108,97,109,98,100,97]⟩),nv,bv],rfl,fun r hr hm=>by simp [Value.ownBlock] at hr;subst hr;have:=hM _ hm;omega,⟨rfl,.inr ⟨w.heap.size,3,_,rfl,Nat.zero_le _,by rw [ho];exact heap_alloc_new _ _,by simp,by simp [maxLen],rfl,rfl⟩⟩,?_,by simp⟩;intro i u x hu hx
 match i,hu,hx with
 | 0,hu,hx =>
  simp only [List.getElem?_cons_zero,Option.some.injEq] at hu hx;subst hu hx
  cases n with
  | zero=>exact hn.elim
  | succ n=>rfl
 | 1,hu,hx =>simp at hu hx;subst hu hx;exact hn.go (Stp.of_below hlt)
 | 2,hu,hx =>simp at hu hx;subst hu hx;exact hb.go (Stp.of_below hlt)
 | _+3,hu,_=>simp at hu
theorem lA{ok:Nat->Prop}:∀(n m:Nat)(v:Value)(t:Tr),RepP ok n w v t->n<=m->tsz m t=tsz n t
 | 0,_,_,_,h,_=>h.elim
 | _+1,0,_,_,_,h=>by omega
 | n+1,m+1,v,t,h,hm=>by
  match t,h with
  | .lit (.int _ _),_=>rfl
  | .lit (.bool _),_=>rfl
  | .lit (.string _),_=>rfl
  | .agg ts,h =>
   obtain⟨sl,vs,_,_,h3,h4,_⟩:=h;show(ts.map (tsz m)).sum=(ts.map (tsz n)).sum
   congr 1
   apply List.map_congr_left;intro x hx;obtain⟨i,hi⟩:=List.mem_iff_getElem?.1 hx;have hl:vs.length=ts.length:=h3.1.trans (Nat.mul_one _);have hlt:=(List.getElem?_eq_some_iff.1 hi).1;exact lA n m _ x (h4 i vs[i] x (List.getElem?_eq_getElem (by omega)) hi) (by omega)
theorem let_seq(o:Option PF)(f:Tr->Option PF)(ts:List Tr)(b:Nat):(Pl.seqL (fmF o::ts.map fun t=>fmF (f t)) b).map (fun r=>(mkF .call [] .nil r.1 [],r.2))=fmF (o.bind fun h=>(Pl.allF f ts).map fun r=>mkF .call [] .nil (h::r) []) b:=by
 simp only [Pl.seqL]
 cases o with
 | none=>rfl
 | some h =>
  simp only [fmF,Option.map_some,Option.bind_some];rw [Pl.seqL_eq]
  cases Pl.allF f ts with
  | none=>rfl
  | some l=>simp [mkF,Pl.settle_other,Pl.settleL_cons]
def LamSaid(n:Nat):Prop:=∀(M:Nat->Prop)(w:World)(v:Value)(a b:Tr),RepP (fun k=>¬M k) (n+1) w v (.agg [.lit (.string Pl.lambdaW),a,b])->cL n a->cL n b->FCall M w v (fmF (Pl.lamF (formOf n) a b)) (tsz n a+tsz n b)
theorem nX{x:Tr}(h:¬∃a b,x=.agg [a,b]):Pl.isPair x=false:=by
 unfold Pl.isPair;split
 ·exact absurd ⟨_,_,rfl⟩ h
 ·rfl
theorem vY{f:Tr->Option PF}{ts:List Tr}(h:¬ts.length=2):Pl.let2F f ts=none:=by
 match ts,h with
 | [],_=>rfl
 | [_],_=>rfl
 | _::_::_::_,_=>rfl
theorem q9{f:Tr->Option PF}{l:List Tr}{b:Tr}(h:l.all Pl.isPair=false):Pl.letF f (.agg l) b=none:=by simp [Pl.letF,h]
theorem pD{f:Tr->Option PF}{p b:Tr}(h:¬∃l,p=.agg l):Pl.letF f p b=none:=by
 unfold Pl.letF;split
 ·exact absurd ⟨_,rfl⟩ h
 ·rfl
theorem letF_ok{f:Tr->Option PF}{l:List Tr}{b:Tr}(h:l.all Pl.isPair=true):Pl.letF f (.agg l) b=(Pl.lamF f (.agg (l.map Pl.fstOf)) b).bind fun h=>(Pl.allF f (l.map Pl.sndOf)).map fun r=>mkF .call [] .nil (h::r) []:=by simp [Pl.letF,h]
theorem vV{ok:Nat->Prop}:∀{l:List Tr},All2 (RepP ok (m+1) w) vs l->l.all Pl.isPair=true->((l.map Pl.fstOf).map (tsz (m+1))).sum+((l.map Pl.sndOf).map (tsz (m+1+1))).sum=(l.map (tsz (m+1))).sum:=by
 intro l hA hp
 induction l generalizing vs with
 | nil=>rfl
 | cons x r ih =>
  match vs,hA with
  | [],hA=>have:=hA.1;simp at this
  | v::vs,hA =>
   simp only [List.all_cons,Bool.and_eq_true] at hp;have ht:All2 (RepP ok (m+1) w) vs r:=⟨by have:=hA.1;simpa using this,fun i u y hu hy=>hA.2 (i+1) u y (by simpa using hu) (by simpa using hy)⟩
   have h0:=hA.2 0 v x rfl rfl;have:=ih ht hp.2
   obtain⟨a,b,rfl⟩:∃a b,x=.agg [a,b]:=by
    unfold Pl.isPair at hp;split at hp
    ·exact⟨_,_,rfl⟩
    ·simp at hp
   obtain⟨sl,us,_,_,h3,h4,_⟩:=h0;have hl:us.length=2:=h3.1.trans (Nat.mul_one _);obtain⟨u1,u2,rfl⟩:=fO hl;have ra:=h4 0 u1 a rfl rfl;have rb:=h4 1 u2 b rfl rfl;have e1:=lA m (m+1) u1 a ra (by omega);have e2:=lA m (m+1+1) u2 b rb (by omega);simp only [List.map_cons,List.sum_cons,Pl.fstOf,Pl.sndOf,e1,e2];show _=([a,b].map (tsz m)).sum+_;simp only [List.map_cons,List.map_nil,List.sum_cons,List.sum_nil];omega
theorem vW{l:List Tr}(hA:AllD M m w vs l)(hB:∀x∈l,cL m x)(hp:l.all Pl.isPair=true)(q:Nat):(∀a∈l.map Pl.fstOf,cL q a)/\(∀a∈l.map Pl.sndOf,cL q a):=by
 have key:∀x∈l,∃a b,x=.agg [a,b]/\cL q a/\cL q b:=by
  intro x hx;obtain⟨i,hi⟩:=List.mem_iff_getElem?.1 hx;obtain⟨u,_,hr⟩:=hA.at_ hi;have hb:=mF m (q+1) u x hr (hB x hx);have hpx:=List.all_eq_true.1 hp x hx;unfold Pl.isPair at hpx;split at hpx
  ·next a b=>exact⟨a,b,rfl,hb a (by simp),hb b (by simp)⟩
  ·simp at hpx
 constructor
 ·intro a ha;obtain⟨x,hx,rfl⟩:=List.mem_map.1 ha;obtain⟨a,b,rfl,h1,_⟩:=key x hx;exact h1
 ·intro a ha;obtain⟨x,hx,rfl⟩:=List.mem_map.1 ha;obtain⟨a,b,rfl,_,h2⟩:=key x hx;exact h2
theorem let_sum{l:List Tr}{bd:Tr}(hA:AllD M m w vs l)(hp:l.all Pl.isPair=true):((tsz (m+1) (.agg (l.map Pl.fstOf))+tsz (m+1) bd)::(l.map Pl.sndOf).map (tsz (m+1))).sum=tsz (m+1) (.agg l)+tsz (m+1) bd:=by
 rw [List.sum_cons];show((l.map Pl.fstOf).map (tsz m)).sum+_+_=(l.map (tsz m)).sum+_
 cases m with
 | zero =>
  cases l with
  | nil=>simp
  | cons x r =>obtain⟨u,_,h⟩:=hA.at_ (i:=0) (x:=x) rfl;exact h.elim
 | succ m =>have:=vV hA hp;omega
theorem FmQ.from_{wz:World}{s:Sg}{tb mb:Nat}{ps:List (PV×PV)}{o:FR}{z:Nat}{ev:Value}(h:FmQ M wz s tb mb ps o z v ev w')(hb:Below w.heap.size w wz):FmQ M w s tb mb ps o z v ev w':=⟨aM (aI hb) h.1,h.2⟩
theorem zW(m:Nat)(hF:FSaid (m+1))(hL:LamSaid (m+1))(M:Nat->Prop)(w wl:World)(s:Sg)(tb mb:Nat)(ps:List (PV×PV))(l:List Tr)(bd:Tr)(bs:List Value)(lv:Value)(vvs:List Value)(hR:Rdr M w s tb mb ps)(hb:Below w.heap.size w wl)(hA:AllD M m w bs l)(hB:∀x∈l,cL m x)(hBd:cL (m+1) bd)(hp:l.all Pl.isPair=true)(hlen:l.length<=1000)
  (hlv:RepP (fun k=>¬M k) (m+1+1) wl lv (.agg [.lit (.string Pl.lambdaW),.agg (l.map Pl.fstOf),bd])) (hV:AllD M m w vvs (l.map Pl.sndOf)) (hz:s.ns.length+(tsz (m+1) (.agg l)+tsz (m+1) bd)<=NsMax) (o:FR) (ho:o=fmF (Pl.letF (formOf (m+1)) (.agg l) bd) ps.length) :
  ∀(wz:World)(slz:Value),Below wl.heap.size wl wz->DRow M wz slz (lv::vvs)->Calls prog 156 #[.agg #[.pointer (some ⟨tb,0,none⟩)],slz] wz fun e w'=>∃v ev,e=.returned (.tuple #[v,ev])/\Hid (FmQ M w s tb mb ps o (tsz (m+1) (.agg l)+tsz (m+1) bd) v ev w'):=by
 intro wz slz hbz hS;have hbw:Below w.heap.size w wz:=hb.trans (hbz.mono hb.size);obtain⟨b1,b2⟩:=vW hA hB hp m;obtain⟨_,b3⟩:=vW hA hB hp (m+1);have hvl:vvs.length=l.length:=by have:=hV.1;simpa using this
 have hsum:=let_sum (bd:=bd) hA hp
 have:=p_call M wz s tb mb ps slz (lv::vvs) (fmF (Pl.lamF (formOf (m+1)) (.agg (l.map Pl.fstOf)) bd)::(l.map Pl.sndOf).map fun t=>fmF (formOf (m+1) t)) ((tsz (m+1) (.agg (l.map Pl.fstOf))+tsz (m+1) bd)::(l.map Pl.sndOf).map (tsz (m+1))) (hR.below hbw) hS (by simp [hvl]) (by simp) (by simp;omega) (by simp) (by rw [hsum];exact hz) (fun v hv=>by
   rcases List.mem_cons.1 hv with rfl | h
   ·obtain⟨T,x,e,_⟩:=hlv.iface;exact⟨T,x,e⟩
   ·exact hV.iface v h) (fun i v F z h1 h2 h3=>by
   cases i with
   | zero =>simp only [List.getElem?_cons_zero,Option.some.injEq] at h1 h2 h3;subst h1 h2 h3;exact hL M wz _ _ _ (hlv.go (Stp.of_below hbz)) b1 hBd
   | succ i =>
    rw [List.getElem?_cons_succ] at h1 h2 h3;rw [List.getElem?_map,Option.map_eq_some_iff] at h2 h3;obtain⟨t,ht,rfl⟩:=h2;obtain⟨t',ht',rfl⟩:=h3;rw [ht] at ht';obtain rfl:=Option.some.inj ht'
    exact hF M wz v t (RepP.up _ _ _ _ (Nat.le_succ _) ((hV.2 i v t h1 ht).go (Stp.of_below hbw))) (b3 t (List.mem_of_getElem? ht))) o (by rw [let_seq,ho,letF_ok hp])
 rw [hsum] at this;refine this.mono (fun e w' h=>?_);obtain⟨v,ev,h1,h2⟩:=h.one;exact⟨v,ev,h1,h2.from_ hbw⟩
structure PlJ(w0 w:World)(wb:Nat)(W:PW)(pv qv cv lv gv:Value)(qs cs:List Value)(l:List PV)(lv':Value):Prop where
 old:RWs w0 wb W pv qv cv lv gv qs cs
 chg:Chg w0 w wb lv.ownBlock
 blk:w.heap[wb]?=some (.cells #[pv,qv,cv,lv',gv,byV W.out] TWd (0,0))
 row:w.ownsRow 0 TV 3 lv' (W.places.length+l.length) ((W.places++l).flatMap cZ)
 at_:∀k,lv'.ownBlock=some k->lv.ownBlock=some k\/w0.heap.size<=k
theorem PlJ.start{W:PW}(h:RWs w0 wb W pv qv cv lv gv qs cs)(hB:Below w0.heap.size w0 w):PlJ w0 w wb W pv qv cv lv gv qs cs [] lv:=by have h':=h.later (fun k hk=>hB.block k hk) (Stp.of_below hB);exact⟨h,⟨hB.os,hB.tape,hB.output,hB.size,fun k hk _ _=>hB.block k hk⟩,h'.blk,by simpa using h'.pl,fun k hk=>.inl hk⟩
theorem PlJ.grown{W:PW}{l:List PV}(h:PlJ w0 w wb W pv qv cv lv gv qs cs l lv'){row:Option Nat}(hg:w.grownBy w' row)(hr:∀k,row=some k->w0.heap.size<=k/\lv'.ownBlock≠some k):PlJ w0 w' wb W pv qv cv lv gv qs cs l lv':=by
 have hwb:=aB h.old.blk;have hsz:=h.chg.size;refine⟨h.old,⟨hg.os.trans h.chg.os,hg.tape.trans h.chg.tape,hg.output.trans h.chg.output,Nat.le_trans hsz hg.size,fun k hk h1 h2=>?_⟩,?_,?_,h.at_⟩
 ·rw [hg.block k (by omega) (fun e=>by have:=(hr k e.symm).1;omega)];exact h.chg.block k hk h1 h2
 ·rw [hg.block wb (aB h.blk) (fun e=>by have:=(hr wb e.symm).1;omega)];exact h.blk
 ·refine⟨h.row.1,?_⟩;rcases h.row.2 with hn | ⟨g,cap,cur,rfl,h0,hgg,rest⟩
  ·exact .inl hn
  ·exact .inr ⟨g,cap,cur,rfl,h0,(hg.block g (aB hgg) (fun e=>(hr g e.symm).2 rfl)).trans hgg,rest⟩
theorem PlJ.later{W:PW}{l:List PV}(h:PlJ w0 w wb W pv qv cv lv gv qs cs l lv')(hB:Below w.heap.size w w'):PlJ w0 w' wb W pv qv cv lv gv qs cs l lv' :=h.grown (aQ none hB) (fun k e=>by cases e)
theorem PlJ.done{W:PW}{l:List PV}(h:PlJ w0 w wb W pv qv cv lv gv qs cs l lv') :RWs w wb {W with places:=W.places++l} pv qv cv lv' gv qs cs/\Stp (Mof wb [pv,qv,cv,lv,gv]) w0 (Mof wb [pv,qv,cv,lv',gv]) w:=by have ht:=aN h.old.pl;have hs:Stp (Mof wb [pv,qv,cv,lv,gv]) w0 (Mof wb [pv,qv,cv,lv',gv]) w :=h.chg.stp (fun k hk=>.inr ⟨lv,by simp,hk⟩) (fJ (v:=lv) (v':=lv') (by simp) (by intro x hx;simp only [List.mem_cons,List.not_mem_nil,or_false] at hx ⊢;rcases hx with rfl | rfl | rfl | rfl | rfl<;>simp) h.at_);refine⟨h.old.upd hs h.blk (aL h.old.pr h.chg h.old.blk ht (by decide) (by decide)) (aL h.old.pc h.chg h.old.blk ht (by decide) (by decide)) (aL h.old.cn h.chg h.old.blk ht (by decide) (by decide)) ?_ (aL h.old.gl h.chg h.old.blk ht (by decide) (by decide)) h.old.out (fun i p hi=>.inl ⟨hi,rfl,rfl⟩) (fun i fs hi=>.inl ⟨hi,rfl⟩),hs⟩;simpa using h.row
theorem PlJ.ne{W:PW}{l:List PV}(h:PlJ w0 w wb W pv qv cv lv gv qs cs l lv'):∀k,lv'.ownBlock=some k->k≠wb/\k<w.heap.size:=fun k hk=>by obtain⟨cur,hc⟩:=aN h.row k hk;exact⟨fun e=>by subst e;exact absurd (aK hc h.blk).2 (by decide),aB hc⟩
theorem FrAt.ptr{fs:List PFr}(h:FrAt M w v fs):∃po,v=.pointer po:=by
 cases fs with
 | nil=>exact⟨none,h⟩
 | cons f r=>obtain⟨b,_,_,_,_,e,_⟩:=h;exact⟨_,e⟩
end
end Go.Proofs.YtkgbdddkcjpgfaaGreatDoor
