import Derived.Lib.AppendZerosOnto
import Derived.Laws.AppendOwnNone
import Derived.Test.YtkgbdddkcjpgfaaGreatDoorS39
import Derived.Test.YtkgbdddkcjpgfaaGreatDoorS49
namespace Go.Proofs.YtkgbdddkcjpgfaaGreatDoor
set_option maxHeartbeats 4000000
set_option maxRecDepth 100000
open Go.Proofs.Tryz
section
open Go.RowKit Go.Lib
theorem Tryz.infoVal:(prog.info? 161).map (fun i=>(i.zero,i.size,i.bytes))=some (some .nilIface,1,16):=by kernel_rfl
theorem rD:∃i,prog.info? TVal=some i/\i.zero=some .nilIface/\i.size=1/\i.bytes=16:=by obtain⟨i,h1,h2⟩:=Option.map_eq_some_iff.1 Tryz.infoVal;simp only [Prod.mk.injEq] at h2;exact⟨i,h1,h2.1,h2.2.1,h2.2.2⟩
theorem dC{P:Program}(w:World){ops:Array Oper}{rest:List Oper}{o:Oper}{a:Act}{Q:Exit->Act->World->Prop}(hgd:o.guard=none)(sl x:Operand)(t u:TypeId)
  (ho:o.op=.call {callee:=.builtin .append,args:=#[sl,x],argTypes:=#[t,u]}) (v:Value) (hs:a.eval sl=v) (y:Value) (hx:a.eval x=y) {v':Value} {w':World} (ty:TypeId) (hty:o.type=ty) (hr:(Builtin.append_ #[t,u] ty #[v,y]).run P w=.ok v' w') (h:wpList P ops Q rest (a.put o.dst v') w'):wpList P ops Q (o::rest) a w:=by
 refine wpList_plain hgd fun K hK=>?_;unfold Oper.wp execOp;simp only [ho,resolve,invoke,builtin,Sem.run_bind,Sem.run_pure,Result.andThen_ok,List.map_toArray,List.map_cons,List.map_nil,hs,hx,hty,hr];exact hK _ _ h
theorem p_grow(w:World)(n:Nat)(h0:0<n)(hn:n<=100000):Calls prog 393 #[.slice none 0 0,.int .i64 (n:Int)] w fun e w'=>∃cap,n<=cap/\e=.returned (.slice (some ⟨w.heap.size,0,none⟩) 0 cap)/\Below w.heap.size w w'/\w'.ownsRow w.heap.size TVal 1 (.slice (some ⟨w.heap.size,0,none⟩) 0 cap) 0 []/\w.heap.size<w'.heap.size:=by
 obtain⟨i0,hi0,hz0,hz1,hz2⟩:=rD;have hnx:Builtin.nextslicecap n 0*i0.bytes<=281474976710656:=by rw [hz2];exact growslice_fits (by omega) (by omega)
 have hap:=run_append_grow_zeros (P:=prog) w 350 3 350 TVal i0 .nilIface .i64 .i64 underlying350 underlying3 hi0 hz0 none 0 0 [] (by simpa using run_firstCells_none w.drew i0.size 0 0 0) n h0 (by omega) (by omega) (by omega) (by rw [hz2];omega) (by simpa using hnx);simp only [Nat.zero_add] at hap;have hge:=grownCap_ge w n 0 TVal;have hmx:grownCap w n 0 TVal<=maxLen:=grownCap_le_maxLen w n 0 TVal (by unfold maxLen;omega);generalize grownCap w n 0 TVal=cap at *;have HX:Hid (∀cur:Array Value,cur.size=cap->(w.alloc (.cells cur TVal)).drew.ownsRow w.heap.size TVal 1 (.slice (some ⟨w.heap.size,0,none⟩) 0 cap) 0 []):=fun cur hc=>World.ownsRow_made w cur cap (Nat.le_refl _) hmx (by rw [Nat.mul_one];exact hc);have HB:Hid (∀o,Below w.heap.size w (w.alloc o).drew):=fun o=>((Below.refl _ _).alloc (Nat.le_refl _) o).drew;have hw1:wrap64 ((n:Int)-0)=(n:Int):=by unfold wrap64;omega
 have hlt:¬((n:Int)<0):=by omega
 have hgt:decide ((0:Int)<(n:Int))=true:=by simp;omega
 clear hi0 hz0 hz1 hz2 hnx;go_enter func393,ntmps393;go_wp2_with (at_builtin;refine dC _ rfl _ _ 350 3 rfl _ rfl _ rfl 350 rfl hap ?_);go_ret;refine⟨cap,hge,rfl,HB.out _,HX.out _ ?_,by simp⟩;have hz1':(#[Value.nilIface]:Array Value).size=1:=rfl;simp only [Array.size_append,size_zeroCells,hz1'];omega
theorem sR{P:Program}(w:World)(base:Nat)(t ty e:TypeId)(i:TypeInfo)(size:Nat)(ht:P.underlying t=some (.slice e))(hi:P.info? e=some i)(v:Value)(n:Nat)(xs:List Value)(hown:w.ownsRow base e size v n xs)(c:Nat):(Builtin.append_ #[t,t] ty #[v,.slice none 0 c]).run P w=.ok v w:=by
 rcases hown.2 with⟨rfl,rfl⟩ | ⟨g,cap,cur,rfl,_,_,hnc,_⟩
 ·simp [Builtin.append_,run_underlying ht,sizeOf,typeInfo,hi,Builtin.lenOf,Builtin.firstCells]
 ·simp [Builtin.append_,run_underlying ht,sizeOf,typeInfo,hi,Builtin.lenOf,Builtin.firstCells,hnc,storeCells]
def CatQ(w:World)(l:List Value)(v:Value)(w':World):Prop:=Below w.heap.size w w'/\w'.ownsRow w.heap.size TVal 1 v l.length l/\∃g cap,v=.slice (some ⟨g,0,none⟩) l.length cap
theorem yX(w:World)(ob b2:Nat)(sl:Value)(vs:List Value)(v:Value)(hS:SlOf w sl vs)(hone:∀u∈vs,u.oneCell'=true)(hv:v.oneCell'=true)(hl:vs.length<=2000)(h0:w.cell? ⟨ob,0,none⟩=some sl)(h1:w.cell? ⟨ob,1,none⟩=some (.slice (some ⟨b2,0,none⟩) 1 1))(h2:w.cell? ⟨b2,0,none⟩=some v) :Calls prog 391 #[.slice (some ⟨ob,0,none⟩) 2 2] w fun e w'=>∃x,e=.returned x/\CatQ w (vs++[v]) x w':=by
 obtain⟨i0,hi0,hz0,hz1,hz2⟩:=rD;obtain⟨ao,cap,rfl,hcap,hc⟩:=hS;have HC:Hid (∀(i:Nat)(u:Value),vs[i]?=some u->∃g off,ao=some ⟨g,off,none⟩/\g<w.heap.size/\w.cell? ⟨g,off+i,none⟩=some u):=hc;have HO:Hid (∀u∈vs,u.oneCell'=true):=hone;have hob:=World.block_lt_of_cell? _ _ h0;have hb2:=World.block_lt_of_cell? _ _ h2;have hw1:wrap64 (0+(vs.length:Int))=(vs.length:Int):=by unfold wrap64;omega
 have hw2:wrap64 ((vs.length:Int)+1)=((vs.length+1:Nat):Int):=by unfold wrap64;omega
 have hlt1:¬((vs.length:Int)<0):=by omega
 have hlt2:¬(((vs.length+1:Nat):Int)<0):=by omega
 have HG:Hid (Calls prog 393 #[.slice none 0 0,.int .i64 ((vs.length+1:Nat):Int)] w fun e w'=>∃cap,vs.length+1<=cap/\e=.returned (.slice (some ⟨w.heap.size,0,none⟩) 0 cap)/\Below w.heap.size w w'/\w'.ownsRow w.heap.size TVal 1 (.slice (some ⟨w.heap.size,0,none⟩) 0 cap) 0 []/\w.heap.size<w'.heap.size):=p_grow w (vs.length+1) (by omega) (by omega);clear hc hone;go_enter func391,ntmps391;go_wp2_with fail;refine wp_loop_rounds 3 ?_;rw [rounds_succ];go_wp2_with fail;rw [rounds_succ];go_wp2_with fail;rw [rounds_succ];go_wp2_with (go_at_call 393;refine Calls.mono HG.out ?_;rintro e wg ⟨cg,hcg,rfl,hBg,hog,hsg⟩;have k0:=(hBg.cell (p:=⟨ob,0,none⟩) hob).trans h0;have k1:=(hBg.cell (p:=⟨ob,1,none⟩) hob).trans h1);have keep:∀{x:Value} {n:Nat} {xs:List Value} {w1:World},wg.ownsRow w.heap.size TVal 1 x n xs->wg.grownBy w1 x.ownBlock->Below w.heap.size w w1:=fun hx hg=>hBg.grown hg hBg.size (fun k hk=>(hx.lt k hk).1);have HBg:Hid (Below w.heap.size w wg):=hBg;have HV:Hid (v.oneCell'=true):=hv;refine wp_loop_rounds 3 ?_;by_cases hao:∃a,ao=some a
 ·obtain⟨a,rfl⟩:=hao;have hnews:∀(j:Nat)(u:Value),vs[j]?=some u->wg.cell? (a.add j)=some u:=fun j u hj=>by obtain⟨g,off,e,hg,hc⟩:=HC.out j u hj;simp only [Option.some.injEq] at e;subst e;rw [Addr.add_lit];exact(hBg.cell (p:=⟨g,off+j,none⟩) hg).trans hc
  have hone:=HO.out;clear HC HO HG;rw [rounds_succ];go_wp2_with (at_builtin;refine wpList_append_own _ rfl _ _ 350 rfl w.heap.size TVal i0 .nilIface 1 16 underlying350 hi0 hz0 hz1 hz2 rfl (by decide) _ 0 [] rfl hog a vs.length cap vs rfl (by simp) hnews hone (by unfold maxLen;omega) (by omega) hBg.size ?_;intro v1 w1 hown1 hgrow1 _);have hB1:=keep hog hgrow1;simp only [Nat.zero_add,List.nil_append] at hown1;have q1:=(hB1.cell (p:=⟨ob,1,none⟩) hob).trans h1;have q2:=(hB1.cell (p:=⟨b2,0,none⟩) hb2).trans h2;obtain⟨ao1,cap1,rfl,_⟩:=cJ hown1;have HB1:Hid (Below w.heap.size w w1):=hB1;clear hgrow1 hnews hone k0 k1;rw [rounds_succ];go_wp2_with (at_builtin;refine wpList_append_own _ rfl _ _ 350 rfl w.heap.size TVal i0 .nilIface 1 16 underlying350 hi0 hz0 hz1 hz2 rfl (by decide) _ vs.length vs rfl hown1 ⟨b2,0,none⟩ 1 1 [v] rfl (by simp) (fun j u hj=>(by cases j with | zero=>simp at hj;subst hj;simpa [Addr.add_lit] using q2 | succ j=>simp at hj)) (fun u hu=>(by simp at hu;subst hu;exact HV.out)) (by unfold maxLen;omega) (by omega) hB1.size ?_;intro v2 w2 hown2 hgrow2 hnil2);have hB2:Below w.heap.size w w2:=HB1.out.grown hgrow2 HB1.out.size (fun k hk=>(hown1.lt k hk).1)
  have HX:Hid (CatQ w (vs++[v]) v2 w2):=by
   refine⟨hB2,by simpa using hown2,?_⟩;rcases hown2.2 with⟨_,hz⟩ | ⟨g,c,cur,rfl,_⟩
   ·omega
   ·exact⟨g,c,by simp⟩
  obtain⟨ao2,cap2,rfl,_⟩:=cJ hown2;clear hown2 hgrow2 hnil2 hB2;rw [rounds_succ];go_wp2_with fail;go_ret;exact⟨_,rfl,HX.out⟩
 ·obtain rfl:ao=none:=by
   cases ao with
   | none=>rfl
   | some a=>exact absurd ⟨a,rfl⟩ hao
  have hv0:vs=[]:=by
   cases vs with
   | nil=>rfl
   | cons u us=>obtain⟨g,off,e,_⟩:=HC.out 0 u rfl;cases e
  subst hv0;have hap:=sR (P:=prog) wg w.heap.size 350 350 TVal i0 1 underlying350 hi0 _ 0 [] hog cap;have q2:=(hBg.cell (p:=⟨b2,0,none⟩) hb2).trans h2;simp only [List.length_nil] at k0 hog;clear HC HO HG;rw [rounds_succ];go_wp2_with (at_builtin;refine dC _ rfl _ _ 350 350 rfl _ rfl _ rfl 350 rfl hap ?_);rw [rounds_succ];go_wp2_with (at_builtin;refine wpList_append_own _ rfl _ _ 350 rfl w.heap.size TVal i0 .nilIface 1 16 underlying350 hi0 hz0 hz1 hz2 rfl (by decide) _ 0 [] rfl hog ⟨b2,0,none⟩ 1 1 [v] rfl (by simp) (fun j u hj=>(by cases j with | zero=>simp at hj;subst hj;simpa [Addr.add_lit] using q2 | succ j=>simp at hj)) (fun u hu=>(by simp at hu;subst hu;exact HV.out)) (by unfold maxLen;omega) (by omega) hBg.size ?_;intro v2 w2 hown2 hgrow2 hnil2);have hB2:=keep hog hgrow2
  have HX:Hid (CatQ w ([]++[v]) v2 w2):=by
   refine⟨hB2,by simpa using hown2,?_⟩;rcases hown2.2 with⟨_,hz⟩ | ⟨g,c,cur,rfl,_⟩
   ·omega
   ·exact⟨g,c,by simp⟩
  obtain⟨ao2,cap2,rfl,_⟩:=cJ hown2;clear hown2 hgrow2 hnil2 hB2;rw [rounds_succ];go_wp2_with fail;go_ret;exact⟨_,rfl,HX.out⟩
end
open Pl (PV PW PS PF PFr SR Byt)
section
open Go.RowKit Go.Lib Go.Maps
variable {w:World} {M:Nat->Prop}
theorem ValsAt.vs{s:Sg}{v:Value}{l:List PV}(h:ValsAt M w s v l):∃us,SlOf w v us/\All2 (RV s) us l:=by obtain⟨us,h1,h2⟩:=h;exact⟨us,Sl.slOf h1,h2⟩
theorem oJ{w':World}{v:Value}{vs:List Value}(h:SlOf w v vs)(hb:Below w.heap.size w w'):SlOf w' v vs:=by obtain⟨ao,cap,h1,h2,h3⟩:=h;refine⟨ao,cap,h1,h2,fun i u hu=>?_⟩;obtain⟨g,off,k1,k2,k3⟩:=h3 i u hu;exact⟨g,off,k1,Nat.lt_of_lt_of_le k2 hb.size,(hb.cell (p:=⟨g,off+i,none⟩) k2).trans k3⟩
theorem zK{s:Sg}{base g cap:Nat}{us:List Value}{l:List PV}(h:w.ownsRow base TVal 1 (.slice (some ⟨g,0,none⟩) us.length cap) us.length us)(hm:¬M g)(hA:All2 (RV s) us l):ValsAt M w s (.slice (some ⟨g,0,none⟩) us.length cap) l:=by
 refine⟨us,⟨by simp,_,cap,rfl,?_,?_⟩,hA⟩
 ·rcases h.2 with⟨h1,_⟩ | ⟨g',c,cur,h1,_,_,h2,_⟩
  ·cases h1
  ·simp only [Value.slice.injEq] at h1;obtain⟨_,_,rfl⟩:=h1;exact h2
 ·rcases h.2 with⟨h1,_⟩ | ⟨g',c,cur,h1,_,hg,_,_,_,ht⟩
  ·cases h1
  ·simp only [Value.slice.injEq,Option.some.injEq,Addr.mk.injEq,and_true] at h1;obtain⟨rfl,_,rfl⟩:=h1;refine .inr ⟨g,0,cur,rfl,hm,hg,fun i u hu=>?_⟩;rw [Nat.zero_add];rw [<- ht,List.getElem?_take] at hu;split at hu
   ·simpa using hu
   ·cases hu
theorem o9{base g cap n:Nat}{us:List Value}(h:w.ownsRow base TVal 1 (.slice (some ⟨g,0,none⟩) n cap) n us):base<=g/\n<=cap/\∃cur:Array Value,w.heap[g]?=some (.cells cur TVal (0,0))/\∀(i:Nat)(u:Value),us[i]?=some u->cur[i]?=some u:=by
 rcases h.2 with⟨h1,_⟩ | ⟨g',c,cur,h1,hb,hg,hc,_,_,ht⟩
 ·cases h1
 ·simp only [Value.slice.injEq,Option.some.injEq,Addr.mk.injEq,and_true] at h1;obtain⟨rfl,_,rfl⟩:=h1;refine⟨hb,hc,cur,hg,fun i u hu=>?_⟩;rw [<- ht,List.getElem?_take] at hu;split at hu
  ·simpa using hu
  ·cases hu
def gZ(W:PW)(S:PS)(fr:PFr)(q:PV):SR :=
 if fr.pos=fr.form.ks.length then match fr.got++[q] with
  | []=>⟨9,W,S⟩
  | g::args=>Pl.apply W S g args
 else⟨0,W,(S.push {fr with got:=fr.got++[q],pos:=fr.pos+1}).work fr.form.ks[fr.pos]? fr.env⟩
theorem sA(M:Nat->Prop)(w:World)(s:Sg)(tb mb sb gb rb:Nat)(W:PW)(hW0:Wf W)(S:PS)(hW:Wd M w s tb mb sb gb W)(hFl:S.frames.length<=1000000000){fv ev0 gv kv ov ev rv vv:Value}(hr:RunAt M w sb rb fv ev0 gv kv ov)(hf:FrR M w s kv S.frames)(ho:OutR M w ov W.out)(fr:PFr)(he:EnvR M w s ev fr.env)(hk:fr.form.k=.call)(hpos:fr.pos<=fr.form.ks.length)(hvv:ValsAt M w s vv fr.got)(hrv:FmsAt M w s rv (fr.form.ks.drop fr.pos))(hgl:fr.got.length<=1000)(hwg:∀v∈fr.got,WfV W v)(v:Value)(q:PV)(hv:RV s v q)(hwq:WfV W q) :Calls prog 390 #[.agg #[vv,rv,ev],.pointer (some ⟨rb,0,none⟩),v] w fun e w'=>Went M w s tb mb sb gb rb (gZ W S fr q) e w':=by
 obtain⟨vs,hvs,hvA⟩:=hvv.vs;obtain⟨rs,hrs,hrA⟩:=hrv;have hrl:=aB hr.blk;have hone:∀u∈vs,u.oneCell'=true:=fun u hu=>by obtain⟨i,hi⟩:=List.getElem?_of_mem hu;have hil:=(List.getElem?_eq_some_iff.1 hi).1;exact(hvA.2 i u _ hi (List.getElem?_eq_getElem (by rw [<- hvA.1];exact hil))).oneCell
 have hvl:vs.length<=1000:=by rw [hvA.1];exact hgl
 have hB3:Below w.heap.size w (((w.alloc (.cells #[vv,rv,ev] 352)).alloc (.cells #[v] TVal)).alloc (.cells #[vv,.slice (some ⟨w.heap.size+1,0,none⟩) 1 1] 350)):=(((Below.refl _ _).alloc (Nat.le_refl _) _).alloc (by simp) _).alloc (by simp;omega) _
 have HC:Hid (Calls prog 391 #[.slice (some ⟨w.heap.size+2,0,none⟩) 2 2] (((w.alloc (.cells #[vv,rv,ev] 352)).alloc (.cells #[v] TVal)).alloc (.cells #[vv,.slice (some ⟨w.heap.size+1,0,none⟩) 1 1] 350)) fun e w'=>∃x,e=.returned x/\Hid (Below w.heap.size w w'/\w'.heap[w.heap.size]?=some (.cells #[vv,rv,ev] 352 (0,0))/\∃g cap,w.heap.size<=g/\x=.slice (some ⟨g,0,none⟩) (vs++[v]).length cap/\w'.ownsRow w.heap.size TVal 1 x (vs++[v]).length (vs++[v]))):=by
  have k0:(((w.alloc (.cells #[vv,rv,ev] 352)).alloc (.cells #[v] TVal)).alloc (.cells #[vv,.slice (some ⟨w.heap.size+1,0,none⟩) 1 1] 350)).heap[w.heap.size+2]?=some (.cells #[vv,.slice (some ⟨w.heap.size+1,0,none⟩) 1 1] 350 (0,0)):=by have:=heap_alloc_new ((w.alloc (.cells #[vv,rv,ev] 352)).alloc (.cells #[v] TVal)) (.cells #[vv,.slice (some ⟨w.heap.size+1,0,none⟩) 1 1] 350);rw [show((w.alloc (.cells #[vv,rv,ev] 352)).alloc (.cells #[v] TVal)).heap.size=w.heap.size+2 from by simp] at this;exact this
  have k1:(((w.alloc (.cells #[vv,rv,ev] 352)).alloc (.cells #[v] TVal)).alloc (.cells #[vv,.slice (some ⟨w.heap.size+1,0,none⟩) 1 1] 350)).heap[w.heap.size+1]?=some (.cells #[v] TVal (0,0)):=by rw [Below.heap_alloc _ _ _ (by simp)];have:=heap_alloc_new (w.alloc (.cells #[vv,rv,ev] 352)) (.cells #[v] TVal);rw [show(w.alloc (.cells #[vv,rv,ev] 352)).heap.size=w.heap.size+1 from by simp] at this;exact this
  have k2:(((w.alloc (.cells #[vv,rv,ev] 352)).alloc (.cells #[v] TVal)).alloc (.cells #[vv,.slice (some ⟨w.heap.size+1,0,none⟩) 1 1] 350)).heap[w.heap.size]?=some (.cells #[vv,rv,ev] 352 (0,0)):=by rw [Below.heap_alloc _ _ _ (by simp;omega),Below.heap_alloc _ _ _ (by simp)];exact heap_alloc_new w _
  refine(yX _ (w.heap.size+2) (w.heap.size+1) vv vs v (oJ hvs hB3) hone hv.oneCell (by omega) (aA k0 0) (aA k0 1) (aA k1 0)).mono (fun e w' ⟨x,k3,k4,k5,g,cap,k6⟩=>⟨x,k3,hB3.trans (k4.mono (by simp;omega)),(k4.block _ (by simp;omega)).trans k2,g,cap,?_,k6,?_⟩)
  ·subst k6;have:=(o9 k5).1;simp at this;omega
  ·subst k6;refine⟨k5.1,k5.2.imp id (fun⟨g',c',cur,e1,e2,r⟩=>⟨g',c',cur,e1,by simp at e2;omega,r⟩)⟩
 have HM:Hid (∀k,M k->k<w.heap.size):=hW.rdr.mlt;have hA1:All2 (RV s) (vs++[v]) (fr.got++[q]):=hvA.snoc hv
 have HAp:Hid (∀(w':World)(g cap:Nat)(ao:Option Addr)(L c:Nat),Below w.heap.size w w'->w.heap.size<=g->w'.ownsRow w.heap.size TVal 1 (.slice (some ⟨g,0,none⟩) (vs++[v]).length cap) (vs++[v]).length (vs++[v])->fr.pos=fr.form.ks.length->L=vs.length->vs.length<=c->(vs.length≠0->ao=some ⟨g,1,none⟩)->∀x0,(vs++[v])[0]?=some x0->Calls prog 392 #[.pointer (some ⟨rb,0,none⟩),x0,.slice ao L c] w' fun e w2=>∃x,e=.returned x/\Hid (Went M w s tb mb sb gb rb (gZ W S fr q) (.returned x) w2)):=fun w' g cap ao L c h1 h2 h3 h4 h5 h6 h7 x0 hx0=>by
  subst h5;obtain⟨_,_,cur,h8,h9⟩:=o9 h3
  obtain⟨g0,gs,hg0⟩:∃g0 gs,fr.got++[q]=g0::gs:=by
   cases fr.got with
   | nil=>exact⟨_,_,rfl⟩
   | cons a l=>exact⟨_,_,rfl⟩
  have hcr:gZ W S fr q=Pl.apply W S g0 gs:=by unfold gZ;rw [if_pos h4,hg0]
  obtain⟨u0,us,hu0⟩:∃u0 us,vs++[v]=u0::us:=by
   cases vs with
   | nil=>exact⟨_,_,rfl⟩
   | cons a l=>exact⟨_,_,rfl⟩
  rw [hg0,hu0] at hA1;rw [hu0] at hx0;simp only [List.getElem?_cons_zero,Option.some.injEq] at hx0;subst hx0;have hul:us.length=vs.length:=by have:=congrArg List.length hu0;simp at this;omega
  have hAu:All2 (RV s) us gs:=by have:=hA1.drop 1;simpa using this
  rw [hcr];have hAp:Ap M w w' s tb mb sb gb rb W S fv ev0 gv kv ov (.slice ao vs.length c) us gs:=by refine⟨h1,hW,hr,hf,ho,hAu,by omega,ao,c,by rw [hul],by omega,fun hn=>⟨g,1,cur,h7 (by omega),h2,h8,fun i u hi=>?_⟩⟩;rw [Nat.add_comm];exact h9 (i+1) u (by rw [hu0];simpa using hi)
  have hwf:∀x∈fr.got++[q],WfV W x:=fun x hx=>by
   rcases List.mem_append.1 hx with hx | hx
   ·exact hwg x hx
   ·simp at hx;subst hx;exact hwq
  rw [hg0] at hwf
  exact(p_apply M w w' s tb mb sb gb rb W hW0 S fv ev0 gv kv ov _ us gs hAp (fun x hx=>hwf x (List.mem_cons_of_mem _ hx)) u0 g0 (hA1.2 0 u0 g0 rfl rfl) (hwf g0 (by simp))).mono (fun e w2 hh=>by
   obtain⟨x,rfl⟩:=hh.one
   exact⟨x,rfl,hh⟩)
 obtain⟨oe,rfl⟩:=he.ptr;obtain⟨T,x,rfl⟩:=hv.iface;have hrlen:rs.length=fr.form.ks.length-fr.pos:=by rw [hrA.1];simp
 have hsl:=hrs;obtain⟨hx1,ar,cr,rfl,hcr,hx2⟩:=hrs;obtain⟨av,cv,rfl,hx3,hx4⟩:=hvs;clear hx1 hx2 hx3 hx4;have HVL:Hid ((vs++[Value.iface T x]).length=vs.length+1):=by show _=_;simp
 have HCR:Hid (rs.length<=cr/\vs.length<=1000):=⟨hcr,hvl⟩
 have HX0:Hid (∃x0,(vs++[Value.iface T x])[0]?=some x0/\∃T0 y0,x0=.iface T0 y0):=by
  cases vs with
  | nil=>exact⟨_,rfl,_,_,rfl⟩
  | cons a l=>exact⟨a,rfl,(hA1.2 0 a _ rfl (List.getElem?_eq_getElem (by rw [<- hA1.1];simp))).iface⟩
 by_cases hpe:fr.pos=fr.form.ks.length
 ·have hz:((rs.length:Int)==0)=true:=beq_iff_eq.2 (by omega);have HP:Hid (fr.pos=fr.form.ks.length):=hpe;clear hW hr hf ho he hk hvv hA1 hvA hone hB3 hsl hrA hpe hv hwg hwq hrlen hcr hvl hgl hpos hFl;go_enter func390,ntmps390
  go_upto_region 2 with(go_at_call 391;refine Calls.mono HC.out ?_;rintro e wc ⟨x1,rfl,HQ⟩)
  obtain⟨h1,h2,g,cap,h3,rfl,h4⟩:=HQ.out;have b1:wc.cell? ⟨w.heap.size,1,none⟩=some (.slice ar rs.length cr):=aA h2 1;obtain⟨x0,hx0,T0,y0,rfl⟩:=HX0.out;obtain⟨_,hcap,cur,h8,h9⟩:=o9 h4;have b2:wc.cell? ⟨g,0,none⟩=some (.iface T0 y0):=(aA h8 0).trans (h9 0 _ hx0);have HAp2:Hid (∀(ao:Option Addr)(L c:Nat),L=vs.length->vs.length<=c->(vs.length≠0->ao=some ⟨g,1,none⟩)->Calls prog 392 #[.pointer (some ⟨rb,0,none⟩),.iface T0 y0,.slice ao L c] wc.drew fun e w2=>∃x,e=.returned x/\Hid (Went M w s tb mb sb gb rb (gZ W S fr q) (.returned x) w2)):=fun ao L c k1 k2 k3=>HAp.out wc.drew g cap ao L c h1.drew h3 h4 HP.out k1 k2 k3 _ hx0;rw [HVL.out] at hcap ⊢;obtain⟨m,hm⟩:∃m,vs.length+1=m:=⟨_,rfl⟩
  rw [hm] at hcap ⊢;have hl1:(0:Int)<(m:Int):=by omega
  have hl2:(1:Int)<=(m:Int):=by omega
  have HMM:Hid (vs.length+1=m/\m<=cap):=⟨hm,hcap⟩
  clear h1 h2 h3 h4 h8 h9 hx0 HQ HAp HC HX0;obtain⟨c,rfl⟩:∃c,cap=c+1:=⟨cap-1,by omega⟩
  rcases c with _ | c
  all_goals
   go_wp2_with fail
   go_region_with (go_at_call 392;refine(HAp2.out _ _ _ (by have:=HMM.out;omega) (by have:=HMM.out;omega) (by intro hh;first | rfl | (exfalso;have:=HMM.out;omega))).mono ?_;rintro e w3 ⟨x2,rfl,HQ2⟩)
   all_goals
    go_wp2_with fail
    go_ret;exact HQ2.out
 ·have hpl:fr.pos<fr.form.ks.length:=by omega
  obtain⟨f0,hf0⟩:∃f0,fr.form.ks[fr.pos]?=some f0:=⟨_,List.getElem?_eq_getElem hpl⟩
  have hdr:fr.form.ks.drop fr.pos=f0::fr.form.ks.drop (fr.pos+1):=mD hf0;obtain⟨u0,us,hsl2,h0,hAr⟩:=FmsAt.cons ⟨rs,hsl,hrA⟩ hdr;obtain⟨g0,off,cap0,e0,hcap0,hg0,c0,_⟩:=(Sl.slOf hsl2).cell0;simp only [Value.slice.injEq] at e0;obtain⟨rfl,hrsl,rfl⟩:=e0;have hg0r:g0≠rb:=hsl2.ne hr.mrb ⟨g0,off,none⟩ _ _ rfl;have hz:((rs.length:Int)==0)=false:=beq_eq_false_iff_ne.2 (by omega);have hcr2:gZ W S fr q=⟨0,W,(S.push {fr with got:=fr.got++[q],pos:=fr.pos+1}).work fr.form.ks[fr.pos]? fr.env⟩:=by unfold gZ;rw [if_neg hpe]
  obtain⟨T0,y0,rfl⟩:=h0.iface
  have HPu:Hid (∀(wc:World)(g cap:Nat)(ao:Option Addr)(L c:Nat),Below w.heap.size w wc->w.heap.size<=g->wc.heap[w.heap.size]?=some (.cells #[.slice av vs.length cv,.slice (some ⟨g0,off,none⟩) rs.length cr,.pointer oe] 352 (0,0))->wc.ownsRow w.heap.size TVal 1 (.slice (some ⟨g,0,none⟩) (vs++[Value.iface T x]).length cap) (vs++[Value.iface T x]).length (vs++[Value.iface T x])->L=us.length->us.length<=c->(us.length≠0->ao=some ⟨g0,off+1,none⟩)->Calls prog 171 #[.pointer (some ⟨rb,1,none⟩),.iface 352 (.agg #[.slice (some ⟨g,0,none⟩) (vs++[Value.iface T x]).length cap,.slice ao L c,.pointer oe])] wc.drew fun e w'=>e=.returned (.tuple #[])/\Hid (w'.heap[w.heap.size]?=wc.heap[w.heap.size]? /\ w'.heap[g0]?=w.heap[g0]? /\ ∃p a b d,w'.heap[rb]?=some (.cells #[.pointer (some ⟨sb,0,none⟩),a,b,d,.pointer (some ⟨p,0,none⟩),ov] TRun (0,0))/\∀w2,RunCh w' rb #[.pointer (some ⟨sb,0,none⟩),.iface T0 y0,.pointer oe,.nilIface,.pointer (some ⟨p,0,none⟩),ov] w2->Went M w s tb mb sb gb rb (gZ W S fr q) (.returned .nilIface) w2)):=fun wc g cap ao L c k1 k2 k3 k4 k5 k6 k7=>by
   subst k5;have hs1:Stp M w M wc.drew:=Stp.of_below k1.drew;have hrb2:=(k1.block rb hrl).trans hr.blk;have hr1:RunAt M wc.drew sb rb fv ev0 gv kv ov:=⟨hrb2,hr.mrb⟩
   have hmg:¬M g:=fun hm=>by have:=hW.rdr.mlt g hm;omega
   have hTop:TopR M wc.drew s (.iface 352 (.agg #[.slice (some ⟨g,0,none⟩) (vs++[Value.iface T x]).length cap,.slice ao us.length c,.pointer oe])) {fr with got:=fr.got++[q],pos:=fr.pos+1} :=.call _ _ _ {fr with got:=fr.got++[q],pos:=fr.pos+1} hk (zK (M:=M) (w:=wc.drew) k4 hmg hA1) ⟨us,(hsl2.stp hs1).rest ao c k6 k7,hAr.mono (fun _ _ y=>y.go hs1 (Sg.Le.refl _))⟩ (he.go hs1 (Sg.Le.refl _));exact(kS wc.drew rb _ _ _ _ kv ov _ S.frames.length hrb2 ⟨_,_,rfl⟩ hf.ptr (hf.pileN.below k1.drew) hFl).mono (fun e w' ⟨j1,p,j2,j3,j4⟩=>⟨j1,j4.other _ (aB k3) (by omega),(j4.after k1.drew).other g0 hg0 hg0r,p,_,_,_,j4.blk,fun w2 hc=>(by rw [hcr2];exact(dL (fr:={fr with got:=fr.got++[q],pos:=fr.pos+1}) (hW.mv (Mv.below k1.drew)) hr1 (hf.go hs1 (Sg.Le.refl _)) (ho.below k1.drew) (h0.go hs1 (Sg.Le.refl _)) (he.go hs1 (Sg.Le.refl _)) hTop j4 j2 j3 hc hf0).after hs1)⟩)
  have HG:Hid (∀(w0 w1:World) c1 c2 c3 k1,w0.heap[rb]?=some (.cells #[.pointer (some ⟨sb,0,none⟩),c1,c2,c3,k1,ov] TRun (0,0))->w1.heap[rb]?=w0.heap[rb]? -> Calls prog 172 #[.pointer (some ⟨rb,1,none⟩),.iface T0 y0,.pointer oe] w1 fun e w'=>e=.returned (.tuple #[])/\RunCh w1 rb #[.pointer (some ⟨sb,0,none⟩),.iface T0 y0,.pointer oe,.nilIface,k1,ov] w'):=fun w0 w1 c1 c2 c3 k1 h0' h1=>cU w1 rb _ _ _ _ _ _ _ _ (h1.trans h0') ⟨_,_,rfl⟩ ⟨_,rfl⟩;have HU:Hid (us.length+1=rs.length/\rs.length<=cr):=⟨hrsl.symm,hcr⟩
  have HC0:Hid (w.cell? ⟨g0,off,none⟩=some (.iface T0 y0)):=c0;have hl1:(0:Int)<(rs.length:Int):=by omega
  have hl2:(1:Int)<=(rs.length:Int):=by omega
  clear hW hr hf ho he hk hvv hA1 hvA hone hB3 hsl hrA hpe hv hwg hwq hrlen hvl hgl hpos hFl hsl2 h0 hAr hcr2 hdr hf0 hpl HAp HX0 hrsl hcap0;obtain⟨c,rfl⟩:∃c,cr=c+1:=⟨cr-1,by omega⟩
  go_enter func390,ntmps390
  go_upto_region 2 with(go_at_call 391;refine Calls.mono HC.out ?_;rintro e wx ⟨x1,rfl,HQ⟩)
  obtain⟨h1,h2,g,cap,h3,rfl,h4⟩:=HQ.out;have b1:wx.cell? ⟨w.heap.size,1,none⟩=some (.slice (some ⟨g0,off,none⟩) rs.length (c+1)):=aA h2 1;have b2:wx.cell? ⟨w.heap.size,2,none⟩=some (.pointer oe):=aA h2 2;have HP2:Hid (∀(ao:Option Addr)(L c:Nat),L=us.length->us.length<=c->(us.length≠0->ao=some ⟨g0,off+1,none⟩)->Calls prog 171 #[.pointer (some ⟨rb,1,none⟩),.iface 352 (.agg #[.slice (some ⟨g,0,none⟩) (vs++[Value.iface T x]).length cap,.slice ao L c,.pointer oe])] wx.drew fun e w'=>e=.returned (.tuple #[])/\Hid (w'.heap[w.heap.size]?=wx.heap[w.heap.size]? /\ w'.heap[g0]?=w.heap[g0]? /\ ∃p a b d,w'.heap[rb]?=some (.cells #[.pointer (some ⟨sb,0,none⟩),a,b,d,.pointer (some ⟨p,0,none⟩),ov] TRun (0,0))/\∀w2,RunCh w' rb #[.pointer (some ⟨sb,0,none⟩),.iface T0 y0,.pointer oe,.nilIface,.pointer (some ⟨p,0,none⟩),ov] w2->Went M w s tb mb sb gb rb (gZ W S fr q) (.returned .nilIface) w2)):=fun ao L c k5 k6 k7=>HPu.out wx g cap ao L c h1 h3 h2 h4 k5 k6 k7;have HH2:Hid (wx.heap[w.heap.size]?=some (.cells #[.slice av vs.length cv,.slice (some ⟨g0,off,none⟩) rs.length (c+1),.pointer oe] 352 (0,0))):=h2;have hrx:rb<wx.heap.size:=Nat.lt_of_lt_of_le hrl h1.size;rw [HVL.out] at HP2 ⊢;generalize vs.length+1=mv at *;clear h1 h2 h3 h4 HQ HC HPu
  go_upto_region 4 with fail
  go_cut [] (fun wy=>Hid (wy.heap[w.heap.size]?=some (.cells #[.slice av vs.length cv,.slice (some ⟨g0,off,none⟩) rs.length (c+1),.pointer oe] 352 (0,0))/\wy.heap[g0]?=w.heap[g0]? /\ ∃p a b d,wy.heap[rb]?=some (.cells #[.pointer (some ⟨sb,0,none⟩),a,b,d,.pointer (some ⟨p,0,none⟩),ov] TRun (0,0))/\∀w2,RunCh wy rb #[.pointer (some ⟨sb,0,none⟩),.iface T0 y0,.pointer oe,.nilIface,.pointer (some ⟨p,0,none⟩),ov] w2->Went M w s tb mb sb gb rb (gZ W S fr q) (.returned .nilIface) w2))
  case first =>
   rcases c with _ | c
   all_goals
    go_region_with (go_at_call 171;refine(HP2.out _ _ _ (by have:=HU.out;omega) (by have:=HU.out;omega) (by intro hh;first | rfl | (exfalso;have:=HU.out;omega))).mono ?_;rintro e w3 ⟨rfl,HQ2⟩)
    all_goals
     go_wp2_with fail
     go_meet
     exact⟨HQ2.out.1.trans HH2.out,HQ2.out.2⟩
  case rest =>
   have HQ:=hcut;obtain⟨k1,k2,p,a,b,d,k3,k4⟩:=HQ.out;have HX2:Hid (∀w2,RunCh wc rb #[.pointer (some ⟨sb,0,none⟩),.iface T0 y0,.pointer oe,.nilIface,.pointer (some ⟨p,0,none⟩),ov] w2->Went M w s tb mb sb gb rb (gZ W S fr q) (.returned .nilIface) w2):=k4;have HG2:Hid (∀w1:World,w1.heap[rb]?=wc.heap[rb]? -> Calls prog 172 #[.pointer (some ⟨rb,1,none⟩),.iface T0 y0,.pointer oe] w1 fun e w'=>e=.returned (.tuple #[])/\RunCh w1 rb #[.pointer (some ⟨sb,0,none⟩),.iface T0 y0,.pointer oe,.nilIface,.pointer (some ⟨p,0,none⟩),ov] w'):=fun w1 e1=>HG.out wc w1 _ _ _ _ k3 e1;have j1:wc.cell? ⟨w.heap.size,1,none⟩=some (.slice (some ⟨g0,off,none⟩) rs.length (c+1)):=aA k1 1;have j2:wc.cell? ⟨w.heap.size,2,none⟩=some (.pointer oe):=aA k1 2;have c0':wc.cell? ⟨g0,off,none⟩=some (.iface T0 y0):=(World.cell?_of_block (w:=w) k2).trans HC0.out;have hrw:rb<wc.heap.size:=aB k3;clear k1 k2 k3 k4 HQ hcut HP2 HG HH2 b1 b2;go_wp2_with fail;go_region_with (go_at_call 172;refine(HG2.out _ (by rfl)).mono ?_;rintro e w3 ⟨rfl,hc3⟩)
   all_goals
    go_wp2_with fail
    go_ret;exact HX2.out _ (hc3.after ((Below.refl _ _).drew))
theorem Sta.out_{s:Sg}{sb rb:Nat}{S:PS}{out:Byt}(h:Sta M w s sb rb S out):OutB M w sb rb out:=by obtain⟨fv,ev,gv,kv,ov,h1,_,_,h4⟩:=h.ex;exact⟨fv,ev,gv,kv,ov,h1,h4⟩
theorem r7(M:Nat->Prop)(w:World)(s:Sg)(tb mb sb gb rb t:Nat)(W:PW)(S:PS)(hW:Wd M w s tb mb sb gb W)(hN:NsOk s)(hSt:Sta M w s sb rb S W.out)(hS:SW W S t)(ht:t<=1000000000)(f:PF)(hf:S.form=some f) :Calls prog 128 #[.pointer (some ⟨rb,0,none⟩)] w fun e w'=>Went M w s tb mb sb gb rb (Pl.step W S) e w':=by
 obtain⟨fv,ev,gv,kv,ov,hr,hfo,hfr,ho⟩:=hSt.ex;have hFl:S.frames.length<=1000000000:=Nat.le_trans hS.frames.2 ht;have hwf:=hS.form f hf;have hnl:=hwf.lnm;unfold FormO at hfo;rw [hf] at hfo;obtain⟨hrf,he⟩:=hfo
 cases hrf with
 | const x q nm d v ks ns h hq =>
  have e:Pl.step W S=⟨0,W,S.give v⟩:=by unfold Pl.step;rw [hf];rfl
  rw [e];exact uM M w s tb mb sb gb rb W S hW hr he.ptr hfr ho h
 | name k nm d v ks ns h =>
  have e:Pl.step W S=gD W S nm:=by unfold Pl.step gD;rw [hf];rfl
  rw [e];exact yC M w s tb mb sb gb rb W S hW hN nm k hr he hfr ho h (by have:nm.length<=300:=hnl;omega)
 | iff a b c x y z nm d v ns h1 h2 h3 =>
  have e:Pl.step W S=⟨0,W,(S.push ⟨.mk .iff nm d v [x,y,z] ns,[],1,S.env⟩).work (some x) S.env⟩:=by unfold Pl.step;rw [hf];rfl
  rw [e];exact p_wfIf M w s tb mb sb gb rb W S hW hFl y z _ x hr he hfr ho h1 rfl rfl h2 h3 _ rfl
 | set k a x nm d v ns h h1 =>
  have e:Pl.step W S=⟨0,W,(S.push ⟨.mk .set nm d v [x] ns,[],1,S.env⟩).work (some x) S.env⟩:=by unfold Pl.step;rw [hf];rfl
  rw [e];exact p_wfSet M w s tb mb sb gb rb W S hW hFl nm k _ x hr he hfr ho h1 rfl rfl h _ rfl
 | define k a x nm d v ns h h1 =>
  have e:Pl.step W S=⟨0,W,(S.push ⟨.mk .define nm d v [x] ns,[],1,S.env⟩).work (some x) S.env⟩:=by unfold Pl.step;rw [hf];rfl
  rw [e];exact r9 M w s tb mb sb gb rb W S hW hFl nm k _ x hr he hfr ho h1 rfl rfl h _ rfl
 | lambda sl a x nm d v ns h1 h2 =>
  have e:Pl.step W S=⟨0,{W with procs:=W.procs++[(.mk .lambda nm d v [x] ns,S.env)]},S.give (.proc W.procs.length)⟩:=by unfold Pl.step;rw [hf];rfl
  rw [e];exact r8 M w s tb mb sb gb rb W S hW _ x hr he hfr ho rfl h1 h2
 | begin sl us nm d v ks ns h1 h2 h3 h4 h5 =>
  obtain⟨f0,rest,hks⟩:∃f0 rest,ks=f0::rest:=by
   cases ks with
   | nil=>simp at h4
   | cons a l=>exact⟨a,l,rfl⟩
  have e:Pl.step W S=⟨0,W,(if 0<rest.length then S.push ⟨.mk .begin nm d v ks ns,[],1,S.env⟩ else S).work (some f0) S.env⟩:=by unfold Pl.step;rw [hf];show(⟨0,W,(if 1<ks.length then S.push ⟨.mk .begin nm d v ks ns,[],1,S.env⟩ else S).work ks[0]? S.env⟩:SR)=_;rw [hks];simp
  rw [e];exact uN M w s tb mb sb gb rb W S hW hFl (.mk .begin nm d v ks ns) hr he hfr ho rfl f0 rest hks ⟨us,by rw [h2];exact h1,⟨h2,h3⟩⟩ (by rw [hks] at h5;simp at h5;omega) _ rfl _ rfl
 | call sl us nm d v ks ns h1 h2 h3 h4 h5 =>
  obtain⟨f0,rest,hks⟩:∃f0 rest,ks=f0::rest:=by
   cases ks with
   | nil=>simp at h4
   | cons a l=>exact⟨a,l,rfl⟩
  have e:Pl.step W S=⟨0,W,(S.push ⟨.mk .call nm d v ks ns,[],1,S.env⟩).work (some f0) S.env⟩:=by unfold Pl.step;rw [hf];show(⟨0,W,(S.push ⟨.mk .call nm d v ks ns,[],1,S.env⟩).work ks[0]? S.env⟩:SR)=_;rw [hks];rfl
  rw [e];exact yD M w s tb mb sb gb rb W S hW hFl (.mk .call nm d v ks ns) hr he hfr ho rfl f0 rest hks ⟨us,by rw [h2];exact h1,⟨h2,h3⟩⟩ _ rfl
theorem Tryz.tm_iff(a b c d:Value)(w:World):(Go.method 638 338 (.agg #[a,b,c,d]) "stepper/slow.take").run prog w=.ok (380,(.agg #[a,b,c,d])) w:=by kernel_rfl
theorem Tryz.tn_iff(a b c d:Value)(w:World):(Go.nilAhead 638 338 (.agg #[a,b,c,d]) "stepper/slow.take").run prog w=.ok (some false) w:=by kernel_rfl
theorem Tryz.te_iff:Enters 380:=enters_of func380 (by kernel_rfl) rfl
theorem Tryz.tm_set(a b c:Value)(w:World):(Go.method 638 342 (.agg #[a,b,c]) "stepper/slow.take").run prog w=.ok (383,(.agg #[a,b,c])) w:=by kernel_rfl
theorem Tryz.tn_set(a b c:Value)(w:World):(Go.nilAhead 638 342 (.agg #[a,b,c]) "stepper/slow.take").run prog w=.ok (some false) w:=by kernel_rfl
theorem Tryz.te_set:Enters 383:=enters_of func383 (by kernel_rfl) rfl
theorem Tryz.tm_define(a b:Value)(w:World):(Go.method 638 344 (.agg #[a,b]) "stepper/slow.take").run prog w=.ok (385,(.agg #[a,b])) w:=by kernel_rfl
theorem Tryz.tn_define(a b:Value)(w:World):(Go.nilAhead 638 344 (.agg #[a,b]) "stepper/slow.take").run prog w=.ok (some false) w:=by kernel_rfl
theorem Tryz.te_define:Enters 385:=enters_of func385 (by kernel_rfl) rfl
theorem Tryz.tm_begin(a b:Value)(w:World):(Go.method 638 375 (.agg #[a,b]) "stepper/slow.take").run prog w=.ok (401,(.agg #[a,b])) w:=by kernel_rfl
theorem Tryz.tn_begin(a b:Value)(w:World):(Go.nilAhead 638 375 (.agg #[a,b]) "stepper/slow.take").run prog w=.ok (some false) w:=by kernel_rfl
theorem Tryz.te_begin:Enters 401:=enters_of func401 (by kernel_rfl) rfl
theorem Tryz.tm_call(a b c:Value)(w:World):(Go.method 638 352 (.agg #[a,b,c]) "stepper/slow.take").run prog w=.ok (390,(.agg #[a,b,c])) w:=by kernel_rfl
theorem Tryz.tn_call(a b c:Value)(w:World):(Go.nilAhead 638 352 (.agg #[a,b,c]) "stepper/slow.take").run prog w=.ok (some false) w:=by kernel_rfl
theorem Tryz.te_call:Enters 390:=enters_of func390 (by kernel_rfl) rfl
theorem dQ(w:World)(rb b sb n:Nat)(ev gv ov up:Value)(T:TypeId)(x:Value)(fn:FuncId)(Q:Value->World->Prop)(hb:w.heap[rb]?=some (.cells #[.pointer (some ⟨sb,0,none⟩),.nilIface,ev,gv,.pointer (some ⟨b,0,none⟩),ov] TRun (0,0)))(hp:w.heap[b]?=some (.cells #[.iface T x,up,.int .i64 (n:Int)] TPile (0,0)))(hbr:b≠rb)(hg:∃T x,gv=.iface T x)(hu:∃o,up=.pointer o)
  (hm:∀w,(Go.method 638 T x "stepper/slow.take").run prog w=.ok (fn,x) w) (hnl:∀w,(Go.nilAhead 638 T x "stepper/slow.take").run prog w=.ok (some false) w) (hen:Enters fn)
  (hc:∀w1,w1=w.setCell ⟨rb,4,none⟩ up\/w1=(w.setCell ⟨rb,4,none⟩ up).drew->Calls prog fn #[x,.pointer (some ⟨rb,0,none⟩),gv] w1 fun e w'=>∃v,e=.returned v/\Q v w') :
  Calls prog 82 #[.pointer (some ⟨rb,0,none⟩)] w fun e w'=>∃v,e=.returned v/\Q v w':=by
 have hrl:=aB hb;have hbl:=aB hp;have _:=hbr;have e1:w.cell? ⟨rb,1,none⟩=some .nilIface:=aA hb 1;have e3:w.cell? ⟨rb,3,none⟩=some gv:=aA hb 3;have e4:w.cell? ⟨rb,4,none⟩=some (.pointer (some ⟨b,0,none⟩)):=aA hb 4;have f4:w.frozen? ⟨rb,4,none⟩=false:=aF hb 4;have p0:w.cell? ⟨b,0,none⟩=some (.iface T x):=aA hp 0;have p1:w.cell? ⟨b,1,none⟩=some up:=aA hp 1;have hch:=RunCh.set hb 4 up rfl;have g3:(w.setCell ⟨rb,4,none⟩ up).cell? ⟨rb,3,none⟩=some gv:=aA hch.blk 3;have HC:Hid (∀w1,w1=w.setCell ⟨rb,4,none⟩ up\/w1=(w.setCell ⟨rb,4,none⟩ up).drew->Calls prog fn #[x,.pointer (some ⟨rb,0,none⟩),gv] w1 fun e w'=>∃v,e=.returned v/\Hid (Q v w')):=hc;obtain⟨Tg,xg,rfl⟩:=hg;obtain⟨ou,rfl⟩:=hu;unfold Enters at hen;clear hc hb hp hch;go_enter func82,ntmps82;go_wp2_with fail;go_region_with (refine(HC.out _ (by first | exact .inl rfl | exact .inr rfl)).mono ?_;rintro e w3 ⟨v,rfl,HQ⟩)
 all_goals
  go_wp2_with fail
  go_ret;exact⟨v,rfl,HQ.out⟩
end
end Go.Proofs.YtkgbdddkcjpgfaaGreatDoor
