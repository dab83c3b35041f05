import Derived.Test.YtkgbdddkcjpgfaaGreatDoorC38
namespace Go.Proofs.YtkgbdddkcjpgfaaGreatDoor
set_option maxHeartbeats 4000000
set_option maxRecDepth 100000
open Go.Proofs.Tryz
open Pl (PV PW PS PFr SR)
section
open Go.RowKit Go.Lib Go.Maps
variable {w:World}
theorem ValsAt.vs{M:Nat->Prop}{s:Sg}{v:Value}{l:List PV}(h:ValsAt M w s v l):∃us,SlOf w v us/\All2 (RV s) us l:=by obtain⟨us,h1,h2⟩:=h;exact⟨us,Sl.slOf h1,h2⟩
theorem oJ{w':World}{v:Value}{vs:List Value}(h:SlOf w v vs)(hb:Below w.heap.size w w'):SlOf w' v vs:=by obtain⟨ao,cap,h1,h2,h3⟩:=h;refine⟨ao,cap,h1,h2,fun i u hu=>?_⟩;obtain⟨g,off,k1,k2,k3⟩:=h3 i u hu;exact⟨g,off,k1,Nat.lt_of_lt_of_le k2 hb.size,(hb.cell (p:=⟨g,off+i,none⟩) k2).trans k3⟩
theorem zK{M:Nat->Prop}{s:Sg}{base g cap:Nat}{us:List Value}{l:List PV}(h:w.ownsRow base TVal 1 (.slice (some ⟨g,0,none⟩) us.length cap) us.length us)(hm:¬M g)(hA:All2 (RV s) us l):ValsAt M w s (.slice (some ⟨g,0,none⟩) us.length cap) l:=by
 refine⟨us,⟨by simp,_,cap,rfl,?_,?_⟩,hA⟩
 ·rcases h.2 with⟨h1,_⟩ | ⟨g',c,cur,h1,_,_,h2,_⟩
  ·cases h1
  ·simp only [Value.slice.injEq] at h1;obtain⟨_,_,rfl⟩:=h1;exact h2
 ·rcases h.2 with⟨h1,_⟩ | ⟨g',c,cur,h1,_,hg,_,_,_,ht⟩
  ·cases h1
  ·simp only [Value.slice.injEq,Option.some.injEq,Addr.mk.injEq,and_true] at h1;obtain⟨rfl,_,rfl⟩:=h1;refine .inr ⟨g,0,cur,rfl,hm,hg,fun i u hu=>?_⟩;rw [Nat.zero_add];rw [<- ht,List.getElem?_take] at hu;split at hu
   ·simpa using hu
   ·cases hu
theorem o9{base g cap n:Nat}{us:List Value}(h:w.ownsRow base TVal 1 (.slice (some ⟨g,0,none⟩) n cap) n us):base<=g/\n<=cap/\∃cur:Array Value,w.heap[g]?=some (.cells cur TVal (0,0))/\∀(i:Nat)(u:Value),us[i]?=some u->cur[i]?=some u:=by
 rcases h.2 with⟨h1,_⟩ | ⟨g',c,cur,h1,hb,hg,hc,_,_,ht⟩
 ·cases h1
 ·simp only [Value.slice.injEq,Option.some.injEq,Addr.mk.injEq,and_true] at h1;obtain⟨rfl,_,rfl⟩:=h1;refine⟨hb,hc,cur,hg,fun i u hu=>?_⟩;rw [<- ht,List.getElem?_take] at hu;split at hu
  ·simpa using hu
  ·cases hu
def gZ(W:PW)(S:PS)(fr:PFr)(q:PV):SR :=
 if fr.pos=fr.form.ks.length then match fr.got++[q] with
  | []=>⟨9,W,S⟩
  | g::args=>Pl.apply W S g args
 else⟨0,W,(S.push {fr with got:=fr.got++[q],pos:=fr.pos+1}).work fr.form.ks[fr.pos]? fr.env⟩
theorem sA(M:Nat->Prop)(w:World)(s:Sg)(tb mb sb gb rb:Nat)(W:PW)(hW0:Wf W)(S:PS)(hW:Wd M w s tb mb sb gb W)(hFl:S.frames.length<=6500000000000000000){fv ev0 gv kv ov ev rv vv:Value}(hr:RunAt M w sb rb fv ev0 gv kv ov)(hf:FrR M w s kv S.frames)(ho:OutR M w ov W.out)(fr:PFr)(he:EnvR M w s ev fr.env)(hk:fr.form.k=.call)(hpos:fr.pos<=fr.form.ks.length)(hvv:ValsAt M w s vv fr.got)(hrv:FmsAt M w s rv (fr.form.ks.drop fr.pos))(hgl:fr.got.length<=1000)(hwg:∀v∈fr.got,WfV W v)(v:Value)(q:PV)(hv:RV s v q)(hwq:WfV W q) :Calls prog 390 #[.agg #[vv,rv,ev],.pointer (some ⟨rb,0,none⟩),v] w fun e w'=>Went M w s tb mb sb gb rb (gZ W S fr q) e w':=by
 obtain⟨vs,hvs,hvA⟩:=hvv.vs;obtain⟨rs,hrs,hrA⟩:=hrv;have hrl:=aB hr.blk;have hone:∀u∈vs,u.oneCell'=true:=fun u hu=>by obtain⟨i,hi⟩:=List.getElem?_of_mem hu;have hil:=(List.getElem?_eq_some_iff.1 hi).1;exact(hvA.2 i u _ hi (List.getElem?_eq_getElem (by rw [<- hvA.1];exact hil))).oneCell
 have hvl:vs.length<=1000:=by rw [hvA.1];exact hgl
 have hB3:Below w.heap.size w (((w.alloc (.cells #[vv,rv,ev] 352)).alloc (.cells #[v] TVal)).alloc (.cells #[vv,.slice (some ⟨w.heap.size+1,0,none⟩) 1 1] 350)):=(((Below.refl _ _).alloc (Nat.le_refl _) _).alloc (by simp) _).alloc (by simp;omega) _
 have HC:Hid (Calls prog 391 #[.slice (some ⟨w.heap.size+2,0,none⟩) 2 2] (((w.alloc (.cells #[vv,rv,ev] 352)).alloc (.cells #[v] TVal)).alloc (.cells #[vv,.slice (some ⟨w.heap.size+1,0,none⟩) 1 1] 350)) fun e w'=>∃x,e=.returned x/\Hid (Below w.heap.size w w'/\w'.heap[w.heap.size]?=some (.cells #[vv,rv,ev] 352 (0,0))/\∃g cap,w.heap.size<=g/\x=.slice (some ⟨g,0,none⟩) (vs++[v]).length cap/\w'.ownsRow w.heap.size TVal 1 x (vs++[v]).length (vs++[v]))):=by
  have k0:(((w.alloc (.cells #[vv,rv,ev] 352)).alloc (.cells #[v] TVal)).alloc (.cells #[vv,.slice (some ⟨w.heap.size+1,0,none⟩) 1 1] 350)).heap[w.heap.size+2]?=some (.cells #[vv,.slice (some ⟨w.heap.size+1,0,none⟩) 1 1] 350 (0,0)):=by have:=heap_alloc_new ((w.alloc (.cells #[vv,rv,ev] 352)).alloc (.cells #[v] TVal)) (.cells #[vv,.slice (some ⟨w.heap.size+1,0,none⟩) 1 1] 350);rw [show((w.alloc (.cells #[vv,rv,ev] 352)).alloc (.cells #[v] TVal)).heap.size=w.heap.size+2 from by simp] at this;exact this
  have k1:(((w.alloc (.cells #[vv,rv,ev] 352)).alloc (.cells #[v] TVal)).alloc (.cells #[vv,.slice (some ⟨w.heap.size+1,0,none⟩) 1 1] 350)).heap[w.heap.size+1]?=some (.cells #[v] TVal (0,0)):=by rw [Below.heap_alloc _ _ _ (by simp)];have:=heap_alloc_new (w.alloc (.cells #[vv,rv,ev] 352)) (.cells #[v] TVal);rw [show(w.alloc (.cells #[vv,rv,ev] 352)).heap.size=w.heap.size+1 from by simp] at this;exact this
  have k2:(((w.alloc (.cells #[vv,rv,ev] 352)).alloc (.cells #[v] TVal)).alloc (.cells #[vv,.slice (some ⟨w.heap.size+1,0,none⟩) 1 1] 350)).heap[w.heap.size]?=some (.cells #[vv,rv,ev] 352 (0,0)):=by rw [Below.heap_alloc _ _ _ (by simp;omega),Below.heap_alloc _ _ _ (by simp)];exact heap_alloc_new w _
  refine(yX _ (w.heap.size+2) (w.heap.size+1) vv vs v (oJ hvs hB3) hone hv.oneCell (by omega) (aA k0 0) (aA k0 1) (aA k1 0)).mono (fun e w' ⟨x,k3,k4,k5,g,cap,k6⟩=>⟨x,k3,hB3.trans (k4.mono (by simp;omega)),(k4.block _ (by simp;omega)).trans k2,g,cap,?_,k6,?_⟩)
  ·subst k6;have:=(o9 k5).1;simp at this;omega
  ·subst k6;refine⟨k5.1,k5.2.imp id (fun⟨g',c',cur,e1,e2,r⟩=>⟨g',c',cur,e1,by simp at e2;omega,r⟩)⟩
 have HM:Hid (∀k,M k->k<w.heap.size):=hW.rdr.mlt;have hA1:All2 (RV s) (vs++[v]) (fr.got++[q]):=hvA.snoc hv
 have HAp:Hid (∀(w':World)(g cap:Nat)(ao:Option Addr)(L c:Nat),Below w.heap.size w w'->w.heap.size<=g->w'.ownsRow w.heap.size TVal 1 (.slice (some ⟨g,0,none⟩) (vs++[v]).length cap) (vs++[v]).length (vs++[v])->fr.pos=fr.form.ks.length->L=vs.length->vs.length<=c->(vs.length≠0->ao=some ⟨g,1,none⟩)->∀x0,(vs++[v])[0]?=some x0->Calls prog 392 #[.pointer (some ⟨rb,0,none⟩),x0,.slice ao L c] w' fun e w2=>∃x,e=.returned x/\Hid (Went M w s tb mb sb gb rb (gZ W S fr q) (.returned x) w2)):=fun w' g cap ao L c h1 h2 h3 h4 h5 h6 h7 x0 hx0=>by
  subst h5;obtain⟨_,_,cur,h8,h9⟩:=o9 h3
  obtain⟨g0,gs,hg0⟩:∃g0 gs,fr.got++[q]=g0::gs:=by
   cases fr.got with
   | nil=>exact⟨_,_,rfl⟩
   | cons a l=>exact⟨_,_,rfl⟩
  have hcr:gZ W S fr q=Pl.apply W S g0 gs:=by unfold gZ;rw [if_pos h4,hg0]
  obtain⟨u0,us,hu0⟩:∃u0 us,vs++[v]=u0::us:=by
   cases vs with
   | nil=>exact⟨_,_,rfl⟩
   | cons a l=>exact⟨_,_,rfl⟩
  rw [hg0,hu0] at hA1;rw [hu0] at hx0;simp only [List.getElem?_cons_zero,Option.some.injEq] at hx0;subst hx0;have hul:us.length=vs.length:=by have:=congrArg List.length hu0;simp at this;omega
  have hAu:All2 (RV s) us gs:=by have:=hA1.drop 1;simpa using this
  rw [hcr];have hAp:Ap M w w' s tb mb sb gb rb W S fv ev0 gv kv ov (.slice ao vs.length c) us gs:=by refine⟨h1,hW,hr,hf,ho,hAu,by omega,ao,c,by rw [hul],by omega,fun hn=>⟨g,1,cur,h7 (by omega),h2,h8,fun i u hi=>?_⟩⟩;rw [Nat.add_comm];exact h9 (i+1) u (by rw [hu0];simpa using hi)
  have hwf:∀x∈fr.got++[q],WfV W x:=fun x hx=>by
   rcases List.mem_append.1 hx with hx | hx
   ·exact hwg x hx
   ·simp at hx;subst hx;exact hwq
  rw [hg0] at hwf
  exact(p_apply M w w' s tb mb sb gb rb W hW0 S fv ev0 gv kv ov _ us gs hAp (fun x hx=>hwf x (List.mem_cons_of_mem _ hx)) u0 g0 (hA1.2 0 u0 g0 rfl rfl) (hwf g0 (by simp))).mono (fun e w2 hh=>by
   obtain⟨x,rfl⟩:=hh.one
   exact⟨x,rfl,hh⟩)
 obtain⟨oe,rfl⟩:=he.ptr;obtain⟨T,x,rfl⟩:=hv.iface;have hrlen:rs.length=fr.form.ks.length-fr.pos:=by rw [hrA.1];simp
 have hsl:=hrs;obtain⟨hx1,ar,cr,rfl,hcr,hx2⟩:=hrs;obtain⟨av,cv,rfl,hx3,hx4⟩:=hvs;clear hx1 hx2 hx3 hx4;have HVL:Hid ((vs++[Value.iface T x]).length=vs.length+1):=by show _=_;simp
 have HCR:Hid (rs.length<=cr/\vs.length<=1000):=⟨hcr,hvl⟩
 have HX0:Hid (∃x0,(vs++[Value.iface T x])[0]?=some x0/\∃T0 y0,x0=.iface T0 y0):=by
  cases vs with
  | nil=>exact⟨_,rfl,_,_,rfl⟩
  | cons a l=>exact⟨a,rfl,(hA1.2 0 a _ rfl (List.getElem?_eq_getElem (by rw [<- hA1.1];simp))).iface⟩
 by_cases hpe:fr.pos=fr.form.ks.length
 ·have hz:((rs.length:Int)==0)=true:=beq_iff_eq.2 (by omega);have HP:Hid (fr.pos=fr.form.ks.length):=hpe;clear hW hr hf ho he hk hvv hA1 hvA hone hB3 hsl hrA hpe hv hwg hwq hrlen hcr hvl hgl hpos hFl;go_enter func390,ntmps390
  go_upto_region 2 with(go_at_call 391;refine Calls.mono HC.out ?_;rintro e wc ⟨x1,rfl,HQ⟩)
  obtain⟨h1,h2,g,cap,h3,rfl,h4⟩:=HQ.out;have b1:wc.cell? ⟨w.heap.size,1,none⟩=some (.slice ar rs.length cr):=aA h2 1;obtain⟨x0,hx0,T0,y0,rfl⟩:=HX0.out;obtain⟨_,hcap,cur,h8,h9⟩:=o9 h4;have b2:wc.cell? ⟨g,0,none⟩=some (.iface T0 y0):=(aA h8 0).trans (h9 0 _ hx0);have HAp2:Hid (∀(ao:Option Addr)(L c:Nat),L=vs.length->vs.length<=c->(vs.length≠0->ao=some ⟨g,1,none⟩)->Calls prog 392 #[.pointer (some ⟨rb,0,none⟩),.iface T0 y0,.slice ao L c] wc.drew fun e w2=>∃x,e=.returned x/\Hid (Went M w s tb mb sb gb rb (gZ W S fr q) (.returned x) w2)):=fun ao L c k1 k2 k3=>HAp.out wc.drew g cap ao L c h1.drew h3 h4 HP.out k1 k2 k3 _ hx0;rw [HVL.out] at hcap ⊢;obtain⟨m,hm⟩:∃m,vs.length+1=m:=⟨_,rfl⟩
  rw [hm] at hcap ⊢;have hl1:(0:Int)<(m:Int):=by omega
  have hl2:(1:Int)<=(m:Int):=by omega
  have HMM:Hid (vs.length+1=m/\m<=cap):=⟨hm,hcap⟩
  clear h1 h2 h3 h4 h8 h9 hx0 HQ HAp HC HX0;obtain⟨c,rfl⟩:∃c,cap=c+1:=⟨cap-1,by omega⟩
  rcases c with _ | c
  all_goals
   go_wp2_with fail
   go_region_with (go_at_call 392;refine(HAp2.out _ _ _ (by have:=HMM.out;omega) (by have:=HMM.out;omega) (by intro hh;first | rfl | (exfalso;have:=HMM.out;omega))).mono ?_;rintro e w3 ⟨x2,rfl,HQ2⟩)
   all_goals
    go_wp2_with fail
    go_ret;exact HQ2.out
 ·have hpl:fr.pos<fr.form.ks.length:=by omega
  obtain⟨f0,hf0⟩:∃f0,fr.form.ks[fr.pos]?=some f0:=⟨_,List.getElem?_eq_getElem hpl⟩
  have hdr:fr.form.ks.drop fr.pos=f0::fr.form.ks.drop (fr.pos+1):=mD hf0;obtain⟨u0,us,hsl2,h0,hAr⟩:=FmsAt.cons ⟨rs,hsl,hrA⟩ hdr;obtain⟨g0,off,cap0,e0,hcap0,hg0,c0,_⟩:=(Sl.slOf hsl2).cell0;simp only [Value.slice.injEq] at e0;obtain⟨rfl,hrsl,rfl⟩:=e0;have hg0r:g0≠rb:=hsl2.ne hr.mrb ⟨g0,off,none⟩ _ _ rfl;have hz:((rs.length:Int)==0)=false:=beq_eq_false_iff_ne.2 (by omega);have hcr2:gZ W S fr q=⟨0,W,(S.push {fr with got:=fr.got++[q],pos:=fr.pos+1}).work fr.form.ks[fr.pos]? fr.env⟩:=by unfold gZ;rw [if_neg hpe]
  obtain⟨T0,y0,rfl⟩:=h0.iface
  have HPu:Hid (∀(wc:World)(g cap:Nat)(ao:Option Addr)(L c:Nat),Below w.heap.size w wc->w.heap.size<=g->wc.heap[w.heap.size]?=some (.cells #[.slice av vs.length cv,.slice (some ⟨g0,off,none⟩) rs.length cr,.pointer oe] 352 (0,0))->wc.ownsRow w.heap.size TVal 1 (.slice (some ⟨g,0,none⟩) (vs++[Value.iface T x]).length cap) (vs++[Value.iface T x]).length (vs++[Value.iface T x])->L=us.length->us.length<=c->(us.length≠0->ao=some ⟨g0,off+1,none⟩)->Calls prog 171 #[.pointer (some ⟨rb,1,none⟩),.iface 352 (.agg #[.slice (some ⟨g,0,none⟩) (vs++[Value.iface T x]).length cap,.slice ao L c,.pointer oe])] wc.drew fun e w'=>e=.returned (.tuple #[])/\Hid (w'.heap[w.heap.size]?=wc.heap[w.heap.size]? /\ w'.heap[g0]?=w.heap[g0]? /\ ∃p a b d,w'.heap[rb]?=some (.cells #[.pointer (some ⟨sb,0,none⟩),a,b,d,.pointer (some ⟨p,0,none⟩),ov] TRun (0,0))/\∀w2,RunCh w' rb #[.pointer (some ⟨sb,0,none⟩),.iface T0 y0,.pointer oe,.nilIface,.pointer (some ⟨p,0,none⟩),ov] w2->Went M w s tb mb sb gb rb (gZ W S fr q) (.returned .nilIface) w2)):=fun wc g cap ao L c k1 k2 k3 k4 k5 k6 k7=>by
   subst k5;have hs1:Stp M w M wc.drew:=Stp.of_below k1.drew;have hrb2:=(k1.block rb hrl).trans hr.blk;have hr1:RunAt M wc.drew sb rb fv ev0 gv kv ov:=⟨hrb2,hr.mrb⟩
   have hmg:¬M g:=fun hm=>by have:=hW.rdr.mlt g hm;omega
   have hTop:TopR M wc.drew s (.iface 352 (.agg #[.slice (some ⟨g,0,none⟩) (vs++[Value.iface T x]).length cap,.slice ao us.length c,.pointer oe])) {fr with got:=fr.got++[q],pos:=fr.pos+1} :=.call _ _ _ {fr with got:=fr.got++[q],pos:=fr.pos+1} hk (zK (M:=M) (w:=wc.drew) k4 hmg hA1) ⟨us,(hsl2.stp hs1).rest ao c k6 k7,hAr.mono (fun _ _ y=>y.go hs1 (Sg.Le.refl _))⟩ (he.go hs1 (Sg.Le.refl _));exact(kS wc.drew rb _ _ _ _ kv ov _ S.frames.length hrb2 ⟨_,_,rfl⟩ hf.ptr (hf.pileN.below k1.drew) hFl).mono (fun e w' ⟨j1,p,j2,j3,j4⟩=>⟨j1,j4.other _ (aB k3) (by omega),(j4.after k1.drew).other g0 hg0 hg0r,p,_,_,_,j4.blk,fun w2 hc=>(by rw [hcr2];exact(dL (fr:={fr with got:=fr.got++[q],pos:=fr.pos+1}) (hW.mv (Mv.below k1.drew)) hr1 (hf.go hs1 (Sg.Le.refl _)) (ho.below k1.drew) (h0.go hs1 (Sg.Le.refl _)) (he.go hs1 (Sg.Le.refl _)) hTop j4 j2 j3 hc hf0).after hs1)⟩)
  have HG:Hid (∀(w0 w1:World) c1 c2 c3 k1,w0.heap[rb]?=some (.cells #[.pointer (some ⟨sb,0,none⟩),c1,c2,c3,k1,ov] TRun (0,0))->w1.heap[rb]?=w0.heap[rb]? -> Calls prog 172 #[.pointer (some ⟨rb,1,none⟩),.iface T0 y0,.pointer oe] w1 fun e w'=>e=.returned (.tuple #[])/\RunCh w1 rb #[.pointer (some ⟨sb,0,none⟩),.iface T0 y0,.pointer oe,.nilIface,k1,ov] w'):=fun w0 w1 c1 c2 c3 k1 h0' h1=>cU w1 rb _ _ _ _ _ _ _ _ (h1.trans h0') ⟨_,_,rfl⟩ ⟨_,rfl⟩;have HU:Hid (us.length+1=rs.length/\rs.length<=cr):=⟨hrsl.symm,hcr⟩
  have HC0:Hid (w.cell? ⟨g0,off,none⟩=some (.iface T0 y0)):=c0;have hl1:(0:Int)<(rs.length:Int):=by omega
  have hl2:(1:Int)<=(rs.length:Int):=by omega
  clear hW hr hf ho he hk hvv hA1 hvA hone hB3 hsl hrA hpe hv hwg hwq hrlen hvl hgl hpos hFl hsl2 h0 hAr hcr2 hdr hf0 hpl HAp HX0 hrsl hcap0;obtain⟨c,rfl⟩:∃c,cr=c+1:=⟨cr-1,by omega⟩
  go_enter func390,ntmps390
  go_upto_region 2 with(go_at_call 391;refine Calls.mono HC.out ?_;rintro e wx ⟨x1,rfl,HQ⟩)
  obtain⟨h1,h2,g,cap,h3,rfl,h4⟩:=HQ.out;have b1:wx.cell? ⟨w.heap.size,1,none⟩=some (.slice (some ⟨g0,off,none⟩) rs.length (c+1)):=aA h2 1;have b2:wx.cell? ⟨w.heap.size,2,none⟩=some (.pointer oe):=aA h2 2;have HP2:Hid (∀(ao:Option Addr)(L c:Nat),L=us.length->us.length<=c->(us.length≠0->ao=some ⟨g0,off+1,none⟩)->Calls prog 171 #[.pointer (some ⟨rb,1,none⟩),.iface 352 (.agg #[.slice (some ⟨g,0,none⟩) (vs++[Value.iface T x]).length cap,.slice ao L c,.pointer oe])] wx.drew fun e w'=>e=.returned (.tuple #[])/\Hid (w'.heap[w.heap.size]?=wx.heap[w.heap.size]? /\ w'.heap[g0]?=w.heap[g0]? /\ ∃p a b d,w'.heap[rb]?=some (.cells #[.pointer (some ⟨sb,0,none⟩),a,b,d,.pointer (some ⟨p,0,none⟩),ov] TRun (0,0))/\∀w2,RunCh w' rb #[.pointer (some ⟨sb,0,none⟩),.iface T0 y0,.pointer oe,.nilIface,.pointer (some ⟨p,0,none⟩),ov] w2->Went M w s tb mb sb gb rb (gZ W S fr q) (.returned .nilIface) w2)):=fun ao L c k5 k6 k7=>HPu.out wx g cap ao L c h1 h3 h2 h4 k5 k6 k7;have HH2:Hid (wx.heap[w.heap.size]?=some (.cells #[.slice av vs.length cv,.slice (some ⟨g0,off,none⟩) rs.length (c+1),.pointer oe] 352 (0,0))):=h2;have hrx:rb<wx.heap.size:=Nat.lt_of_lt_of_le hrl h1.size;rw [HVL.out] at HP2 ⊢;generalize vs.length+1=mv at *;clear h1 h2 h3 h4 HQ HC HPu
  go_upto_region 4 with fail
  go_cut [] (fun wy=>Hid (wy.heap[w.heap.size]?=some (.cells #[.slice av vs.length cv,.slice (some ⟨g0,off,none⟩) rs.length (c+1),.pointer oe] 352 (0,0))/\wy.heap[g0]?=w.heap[g0]? /\ ∃p a b d,wy.heap[rb]?=some (.cells #[.pointer (some ⟨sb,0,none⟩),a,b,d,.pointer (some ⟨p,0,none⟩),ov] TRun (0,0))/\∀w2,RunCh wy rb #[.pointer (some ⟨sb,0,none⟩),.iface T0 y0,.pointer oe,.nilIface,.pointer (some ⟨p,0,none⟩),ov] w2->Went M w s tb mb sb gb rb (gZ W S fr q) (.returned .nilIface) w2))
  case first =>
   rcases c with _ | c
   all_goals
    go_region_with (go_at_call 171;refine(HP2.out _ _ _ (by have:=HU.out;omega) (by have:=HU.out;omega) (by intro hh;first | rfl | (exfalso;have:=HU.out;omega))).mono ?_;rintro e w3 ⟨rfl,HQ2⟩)
    all_goals
     go_wp2_with fail
     go_meet
     exact⟨HQ2.out.1.trans HH2.out,HQ2.out.2⟩
  case rest =>
   have HQ:=hcut;obtain⟨k1,k2,p,a,b,d,k3,k4⟩:=HQ.out;have HX2:Hid (∀w2,RunCh wc rb #[.pointer (some ⟨sb,0,none⟩),.iface T0 y0,.pointer oe,.nilIface,.pointer (some ⟨p,0,none⟩),ov] w2->Went M w s tb mb sb gb rb (gZ W S fr q) (.returned .nilIface) w2):=k4;have HG2:Hid (∀w1:World,w1.heap[rb]?=wc.heap[rb]? -> Calls prog 172 #[.pointer (some ⟨rb,1,none⟩),.iface T0 y0,.pointer oe] w1 fun e w'=>e=.returned (.tuple #[])/\RunCh w1 rb #[.pointer (some ⟨sb,0,none⟩),.iface T0 y0,.pointer oe,.nilIface,.pointer (some ⟨p,0,none⟩),ov] w'):=fun w1 e1=>HG.out wc w1 _ _ _ _ k3 e1;have j1:wc.cell? ⟨w.heap.size,1,none⟩=some (.slice (some ⟨g0,off,none⟩) rs.length (c+1)):=aA k1 1;have j2:wc.cell? ⟨w.heap.size,2,none⟩=some (.pointer oe):=aA k1 2;have c0':wc.cell? ⟨g0,off,none⟩=some (.iface T0 y0):=(World.cell?_of_block (w:=w) k2).trans HC0.out;have hrw:rb<wc.heap.size:=aB k3;clear k1 k2 k3 k4 HQ hcut HP2 HG HH2 b1 b2;go_wp2_with fail;go_region_with (go_at_call 172;refine(HG2.out _ (by rfl)).mono ?_;rintro e w3 ⟨rfl,hc3⟩)
   all_goals
    go_wp2_with fail
    go_ret;exact HX2.out _ (hc3.after ((Below.refl _ _).drew))
end
end Go.Proofs.YtkgbdddkcjpgfaaGreatDoor
