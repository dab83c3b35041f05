import Derived.Test.YtkgbdddkcjpgfaaGreatDoorC37
import Derived.Lib.AppendZerosOnto
import Derived.Laws.AppendOwnNone
import Derived.Test.YtkgbdddkcjpgfaaGreatDoorC32
namespace Go.Proofs.YtkgbdddkcjpgfaaGreatDoor
set_option maxHeartbeats 4000000
set_option maxRecDepth 100000
open Go.Proofs.Tryz
open Pl (PV PW PS SR applyB callccW)
section
open Go.RowKit Go.Lib Go.Maps
theorem qR(M:Nat->Prop)(w0 w:World)(s:Sg)(tb mb sb gb rb:Nat)(W:PW)(S:PS)(fv ev gv kv ov av:Value)(u:Value)(a:PV)(h:Ap M w0 w s tb mb sb gb rb W S fv ev gv kv ov av [u] [a])(r:SR)
  (hin:∀(w1 w2:World)(t:Sg)(bv:Value)(v:Value),Sg.Le s t->Ap M w1 w2 t tb mb sb gb rb (W.keep S) S fv ev gv kv ov bv [v] [.cont W.conts.length]->RV t u a->Calls prog 392 #[.pointer (some ⟨rb,0,none⟩),u,bv] w2 fun e w'=>Went M w1 t tb mb sb gb rb r e w') :
  Calls prog 396 #[.pointer (some ⟨rb,0,none⟩),av] w fun e w'=>Went M w0 s tb mb sb gb rb r e w':=by
 have hrb:=h.rb_blk;have hrl:=aB hrb;have hrl0:=aB h.run.blk;obtain⟨ao,cap,rfl,hcap,hargs⟩:=h.args;obtain⟨g,off,cur,rfl,hg0,hg,hcur⟩:=hargs (by simp);have hgl:=aB hg;have hua:RV s u a:=h.vals.2 0 u a rfl rfl;have d0:w.cell? ⟨g,off,none⟩=some u:=(aA hg off).trans (by have:=hcur 0 u rfl;simpa using this);have e4:w.cell? ⟨rb,4,none⟩=some kv:=aA hrb 4
 have HC:Hid (∀w' cp,cp=cap->Calls prog 298 #[.string ⟨#[99,97,108,108,47,99,99]⟩,.int .i64 1,.slice (some ⟨g,off,none⟩) 1 cp] w' fun e w2=>w'=w2/\e=.returned .nilIface):=fun w' cp hcp=>by
  subst hcp;refine Calls.mono (gR ⟨#[99,97,108,108,47,99,99]⟩ 1 (some ⟨g,off,none⟩) 1 cp w' (by omega) (by decide)) (fun e w2 ⟨h1,h2⟩=>⟨h1,?_⟩);rcases h2 with⟨_,h2⟩ | ⟨h2,_⟩
  ·exact h2
  ·exact absurd rfl h2
 have HZ:Hid (Calls prog 392 #[.pointer (some ⟨rb,0,none⟩),u,.slice (some ⟨w.heap.size+1,0,none⟩) 1 1] ((w.alloc (.cells #[kv] TCoS)).alloc (.cells #[.iface 522 (.pointer (some ⟨w.heap.size,0,none⟩))] TVal)).drew fun e w'=>∃x,e=.returned x/\Hid (Went M w0 s tb mb sb gb rb r (.returned x) w')):=by
  have hB1:Below w.heap.size w (w.alloc (.cells #[kv] TCoS)):=(Below.refl _ _).alloc (Nat.le_refl _) _;have hB01:=h.below.trans (hB1.mono h.below.size);have hs01:Stp M w0 M (w.alloc (.cells #[kv] TCoS)):=Stp.of_below hB01;obtain⟨k1,k2⟩:=h.wd.addCont hB01 (p:=w.heap.size) h.below.size (heap_alloc_new w _) S.frames h.fr;have l:=s.addCont_le w.heap.size;have hn:((w.alloc (.cells #[kv] TCoS)).alloc (.cells #[.iface 522 (.pointer (some ⟨w.heap.size,0,none⟩))] TVal)).drew.heap[w.heap.size+1]?=some (.cells #[.iface 522 (.pointer (some ⟨w.heap.size,0,none⟩))] TVal (0,0)):=by have:=heap_alloc_new (w.alloc (.cells #[kv] TCoS)) (.cells #[.iface 522 (.pointer (some ⟨w.heap.size,0,none⟩))] TVal);rw [show(w.alloc (.cells #[kv] TCoS)).heap.size=w.heap.size+1 from by simp] at this;exact this
  have hA:Ap M (w.alloc (.cells #[kv] TCoS)) ((w.alloc (.cells #[kv] TCoS)).alloc (.cells #[.iface 522 (.pointer (some ⟨w.heap.size,0,none⟩))] TVal)).drew (s.addCont w.heap.size) tb mb sb gb rb (W.keep S) S fv ev gv kv ov (.slice (some ⟨w.heap.size+1,0,none⟩) 1 1) [.iface 522 (.pointer (some ⟨w.heap.size,0,none⟩))] [.cont W.conts.length] :=
   ⟨((Below.refl _ _).alloc (Nat.le_refl _) _).drew,k1,⟨(hB01.block rb hrl0).trans h.run.blk,h.run.mrb⟩,h.fr.go hs01 l,h.out.below hB01,⟨rfl,fun i x y hx hy=>by
    match i,hx,hy with
    | 0,hx,hy=>simp at hx hy;subst hx hy;exact k2
    | i+1,hx,_=>simp at hx⟩,by simp,⟨_,1,rfl,Nat.le_refl _,fun _=>⟨w.heap.size+1,0,_,rfl,by simp,hn,fun i x hx=>by
    match i,hx with
    | 0,hx=>simp at hx;subst hx;rfl
    | i+1,hx=>simp at hx⟩⟩⟩
  exact(hin _ _ _ _ _ l hA (hua.le l)).mono (fun e w' hh=>by
   obtain⟨x,rfl⟩:=hh.one
   exact⟨x,rfl,hh.after2 hs01 l (NsPb.same rfl rfl)⟩)
 obtain⟨ok,rfl⟩:=h.fr.ptr;obtain⟨T,x,rfl⟩:=hua.iface;have hl1:(0:Int)<1:=by decide
 clear h hrb hargs hg hcur hua hin;go_enter func396,ntmps396
 go_upto_region 4 with(go_at_call 298;refine(HC.out _ _ rfl).mono ?_;rintro e w' ⟨rfl,rfl⟩)
 clear HC;go_region_with (go_at_call 392;refine Calls.mono HZ.out ?_;rintro e w3 ⟨x1,rfl,HQ⟩)
 all_goals
  go_wp2_with fail
  go_ret;exact HQ.out
theorem sM(w:World)(rb:Nat)(ao:Option Addr)(n cap:Nat)(hne:n≠1) :Calls prog 396 #[.pointer (some ⟨rb,0,none⟩),.slice ao n cap] w fun e w'=>w=w'/\∃es,e=.returned (aY es 10):=by
 have HC:Hid (∀w',Calls prog 298 #[.string ⟨#[99,97,108,108,47,99,99]⟩,.int .i64 1,.slice ao n cap] w' fun e w2=>w'=w2/\∃es,e=.returned (aY es 10)):=fun w'=>by
  refine Calls.mono (gR ⟨#[99,97,108,108,47,99,99]⟩ 1 ao n cap w' (by omega) (by decide)) (fun e w2 ⟨h1,h2⟩=>⟨h1,?_⟩);rcases h2 with⟨h2,_⟩ | ⟨_,h2⟩
  ·exact absurd h2 hne
  ·exact h2
 clear hne;go_enter func396,ntmps396;go_wp2_with (go_at_call 298;refine(HC.out _).mono ?_;rintro e w' ⟨rfl,es,rfl⟩;unfold aY);go_ret;exact⟨rfl,es,rfl⟩
theorem Wf.keep{W:PW}(h:Wf W)(S:PS):Wf (W.keep S):=⟨⟨h.wp.acy,fun i p hp=>⟨(h.wp.vals i p hp).1.le ⟨aDV _,Nat.le_refl _,by simp [Pl.PW.keep],Nat.le_refl _⟩,(h.wp.vals i p hp).2.le ⟨aDV _,Nat.le_refl _,by simp [Pl.PW.keep],Nat.le_refl _⟩⟩⟩,h.out⟩
theorem aAB{W:PW}{v:PV}(h:WfV W v)(S:PS):WfV (W.keep S) v:=h.le ⟨aDV _,Nat.le_refl _,by simp [Pl.PW.keep],Nat.le_refl _⟩
theorem Ap.later{M:Nat->Prop}{w0 w w2:World}{s:Sg}{tb mb sb gb rb:Nat}{W:PW}{S:PS}{fv ev gv kv ov av:Value}{us:List Value}{args:List PV}(h:Ap M w0 w s tb mb sb gb rb W S fv ev gv kv ov av us args)(hB:Below w.heap.size w w2):Ap M w0 w2 s tb mb sb gb rb W S fv ev gv kv ov av us args :=
 ⟨h.below.trans (hB.mono h.below.size),h.wd,h.run,h.fr,h.out,h.vals,h.len,by
  obtain⟨ao,cap,h1,h2,h3⟩:=h.args;refine⟨ao,cap,h1,h2,fun hn=>?_⟩;obtain⟨g,off,cur,k1,k2,k3,k4⟩:=h3 hn
  exact⟨g,off,cur,k1,k2,(hB.block g (aB k3)).trans k3,k4⟩⟩
theorem nM(M:Nat->Prop)(w0 w:World)(s:Sg)(tb mb sb gb rb:Nat)(W:PW)(hW:Wf W)(S:PS)(fv ev gv kv ov av:Value)(u:Value)(a:PV)(h:Ap M w0 w s tb mb sb gb rb W S fv ev gv kv ov av [u] [a])(hw:WfV W a)(hne:a≠.prim callccW) :Calls prog 392 #[.pointer (some ⟨rb,0,none⟩),.iface 243 (.agg #[]),av] w fun e w'=>Went M w0 s tb mb sb gb rb (applyB (W.keep S) S a [.cont W.conts.length]) e w':=by obtain⟨ao,cap,rfl,_,_⟩:=h.args;refine vH w w0 M s tb mb sb gb rb ao 1 cap _ ?_;refine qR M w0 _ s tb mb sb gb rb W S fv ev gv kv ov _ u a (h.later ((Below.refl _ _).alloc (Nat.le_refl _) _)) _ (fun w1 w2 t bv v l hA hu=>?_);exact qS M w1 w2 t tb mb sb gb rb (W.keep S) (hW.keep S) S fv ev gv kv ov bv [v] _ hA (fun x hx=>by simp at hx;subst hx;show W.conts.length<(W.conts++[S.frames]).length;simp) u a hu (aAB hw S) hne
theorem p_apply(M:Nat->Prop)(w0 w:World)(s:Sg)(tb mb sb gb rb:Nat)(W:PW)(hW:Wf W)(S:PS)(fv ev gv kv ov av:Value)(us:List Value)(args:List PV)(h:Ap M w0 w s tb mb sb gb rb W S fv ev gv kv ov av us args)(hw:∀v∈args,WfV W v)(fx:Value)(f:PV)(hf:RV s fx f)(hwf:WfV W f) :Calls prog 392 #[.pointer (some ⟨rb,0,none⟩),fx,av] w fun e w'=>Went M w0 s tb mb sb gb rb (Pl.apply W S f args) e w':=by
 by_cases hcc:f=.prim callccW
 ·subst hcc
  obtain rfl:fx=.iface 243 (.agg #[]):=by
   cases hf with
   | prim k t hk h12=>exact absurd (lR hk) (by omega)
   | callcc=>rfl
  by_cases h1:args.length=1
  ·obtain⟨a,rfl⟩:∃a,args=[a]:=List.length_eq_one_iff.1 h1;obtain⟨u,rfl⟩:∃u,us=[u]:=List.length_eq_one_iff.1 (h.vals.1.trans h1);by_cases ha:a=.prim callccW
   ·subst ha;have hr:Pl.apply W S (.prim callccW) [.prim callccW]=applyB ((W.keep S).keep S) S (.cont W.conts.length) [.cont (W.conts.length+1)]:=by unfold Pl.apply;rw [if_pos rfl];dsimp only;rw [if_pos rfl]
    rw [hr];obtain⟨ao,cap,rfl,_,_⟩:=h.args;refine vH w w0 M s tb mb sb gb rb ao 1 cap _ ?_;refine qR M w0 _ s tb mb sb gb rb W S fv ev gv kv ov _ u _ (h.later ((Below.refl _ _).alloc (Nat.le_refl _) _)) _ (fun w1 w2 t bv v l hA hu=>?_)
    obtain rfl:u=.iface 243 (.agg #[]):=by
     cases hu with
     | prim k t hk h12=>exact absurd (lR hk) (by omega)
     | callcc=>rfl
    have:=nM M w1 w2 t tb mb sb gb rb (W.keep S) (hW.keep S) S fv ev gv kv ov bv v _ hA (by show W.conts.length<(W.conts++[S.frames]).length;simp) (by simp);rw [show(W.keep S).conts.length=W.conts.length+1 from by simp [Pl.PW.keep]] at this;exact this
   ·have hr:Pl.apply W S (.prim callccW) [a]=applyB (W.keep S) S a [.cont W.conts.length]:=by
     unfold Pl.apply;rw [if_pos rfl];dsimp only;rw [if_neg ha]
    rw [hr];exact nM M w0 w s tb mb sb gb rb W hW S fv ev gv kv ov av u a h (hw a (by simp)) ha
  ·have hr:Pl.apply W S (.prim callccW) args=⟨10,W,S⟩:=by
    unfold Pl.apply;rw [if_pos rfl]
    match args,h1 with
    | [],_=>rfl
    | [_],h1=>exact absurd rfl h1
    | _::_::_,_=>rfl
   rw [hr];obtain⟨ao,cap,rfl,_,_⟩:=h.args;refine vH w w0 M s tb mb sb gb rb ao us.length cap _ ?_;exact(sM _ rb ao us.length cap (by rw [h.vals.1];exact h1)).mono (fun e w' ⟨k1,es,k2⟩=>by subst k1 k2;exact h.no ((Below.refl _ _).alloc (Nat.le_refl _) _) (by decide))
 ·have hr:Pl.apply W S f args=applyB W S f args:=if_neg hcc;rw [hr];exact qS M w0 w s tb mb sb gb rb W hW S fv ev gv kv ov av us args h hw fx f hf hwf hcc
end
section
open Go.RowKit Go.Lib
theorem Tryz.infoVal:(prog.info? 161).map (fun i=>(i.zero,i.size,i.bytes))=some (some .nilIface,1,16):=by kernel_rfl
theorem rD:∃i,prog.info? TVal=some i/\i.zero=some .nilIface/\i.size=1/\i.bytes=16:=by obtain⟨i,h1,h2⟩:=Option.map_eq_some_iff.1 Tryz.infoVal;simp only [Prod.mk.injEq] at h2;exact⟨i,h1,h2.1,h2.2.1,h2.2.2⟩
theorem dC{P:Program}(w:World){ops:Array Oper}{rest:List Oper}{o:Oper}{a:Act}{Q:Exit->Act->World->Prop}(hgd:o.guard=none)(sl x:Operand)(t u:TypeId)
  (ho:o.op=.call {callee:=.builtin .append,args:=#[sl,x],argTypes:=#[t,u]}) (v:Value) (hs:a.eval sl=v) (y:Value) (hx:a.eval x=y) {v':Value} {w':World} (ty:TypeId) (hty:o.type=ty) (hr:(Builtin.append_ #[t,u] ty #[v,y]).run P w=.ok v' w') (h:wpList P ops Q rest (a.put o.dst v') w'):wpList P ops Q (o::rest) a w:=by
 refine wpList_plain hgd fun K hK=>?_;unfold Oper.wp execOp;simp only [ho,resolve,invoke,builtin,Sem.run_bind,Sem.run_pure,Result.andThen_ok,List.map_toArray,List.map_cons,List.map_nil,hs,hx,hty,hr];exact hK _ _ h
theorem p_grow(w:World)(n:Nat)(h0:0<n)(hn:n<=100000):Calls prog 393 #[.slice none 0 0,.int .i64 (n:Int)] w fun e w'=>∃cap,n<=cap/\e=.returned (.slice (some ⟨w.heap.size,0,none⟩) 0 cap)/\Below w.heap.size w w'/\w'.ownsRow w.heap.size TVal 1 (.slice (some ⟨w.heap.size,0,none⟩) 0 cap) 0 []/\w.heap.size<w'.heap.size:=by
 obtain⟨i0,hi0,hz0,hz1,hz2⟩:=rD;have hnx:Builtin.nextslicecap n 0*i0.bytes<=281474976710656:=by rw [hz2];exact growslice_fits (by omega) (by omega)
 have hap:=run_append_grow_zeros (P:=prog) w 350 3 350 TVal i0 .nilIface .i64 .i64 underlying350 underlying3 hi0 hz0 none 0 0 [] (by simpa using run_firstCells_none w.drew i0.size 0 0 0) n h0 (by omega) (by omega) (by omega) (by rw [hz2];omega) (by simpa using hnx);simp only [Nat.zero_add] at hap;have hge:=grownCap_ge w n 0 TVal;have hmx:grownCap w n 0 TVal<=maxLen:=grownCap_le_maxLen w n 0 TVal (by unfold maxLen;omega);generalize grownCap w n 0 TVal=cap at *;have HX:Hid (∀cur:Array Value,cur.size=cap->(w.alloc (.cells cur TVal)).drew.ownsRow w.heap.size TVal 1 (.slice (some ⟨w.heap.size,0,none⟩) 0 cap) 0 []):=fun cur hc=>World.ownsRow_made w cur cap (Nat.le_refl _) hmx (by rw [Nat.mul_one];exact hc);have HB:Hid (∀o,Below w.heap.size w (w.alloc o).drew):=fun o=>((Below.refl _ _).alloc (Nat.le_refl _) o).drew;have hw1:wrap64 ((n:Int)-0)=(n:Int):=by unfold wrap64;omega
 have hlt:¬((n:Int)<0):=by omega
 have hgt:decide ((0:Int)<(n:Int))=true:=by simp;omega
 clear hi0 hz0 hz1 hz2 hnx;go_enter func393,ntmps393;go_wp2_with (at_builtin;refine dC _ rfl _ _ 350 3 rfl _ rfl _ rfl 350 rfl hap ?_);go_ret;refine⟨cap,hge,rfl,HB.out _,HX.out _ ?_,by simp⟩;have hz1':(#[Value.nilIface]:Array Value).size=1:=rfl;simp only [Array.size_append,size_zeroCells,hz1'];omega
theorem sR{P:Program}(w:World)(base:Nat)(t ty e:TypeId)(i:TypeInfo)(size:Nat)(ht:P.underlying t=some (.slice e))(hi:P.info? e=some i)(v:Value)(n:Nat)(xs:List Value)(hown:w.ownsRow base e size v n xs)(c:Nat):(Builtin.append_ #[t,t] ty #[v,.slice none 0 c]).run P w=.ok v w:=by
 rcases hown.2 with⟨rfl,rfl⟩ | ⟨g,cap,cur,rfl,_,_,hnc,_⟩
 ·simp [Builtin.append_,run_underlying ht,sizeOf,typeInfo,hi,Builtin.lenOf,Builtin.firstCells]
 ·simp [Builtin.append_,run_underlying ht,sizeOf,typeInfo,hi,Builtin.lenOf,Builtin.firstCells,hnc,storeCells]
def CatQ(w:World)(l:List Value)(v:Value)(w':World):Prop:=Below w.heap.size w w'/\w'.ownsRow w.heap.size TVal 1 v l.length l/\∃g cap,v=.slice (some ⟨g,0,none⟩) l.length cap
theorem yX(w:World)(ob b2:Nat)(sl:Value)(vs:List Value)(v:Value)(hS:SlOf w sl vs)(hone:∀u∈vs,u.oneCell'=true)(hv:v.oneCell'=true)(hl:vs.length<=2000)(h0:w.cell? ⟨ob,0,none⟩=some sl)(h1:w.cell? ⟨ob,1,none⟩=some (.slice (some ⟨b2,0,none⟩) 1 1))(h2:w.cell? ⟨b2,0,none⟩=some v) :Calls prog 391 #[.slice (some ⟨ob,0,none⟩) 2 2] w fun e w'=>∃x,e=.returned x/\CatQ w (vs++[v]) x w':=by
 obtain⟨i0,hi0,hz0,hz1,hz2⟩:=rD;obtain⟨ao,cap,rfl,hcap,hc⟩:=hS;have HC:Hid (∀(i:Nat)(u:Value),vs[i]?=some u->∃g off,ao=some ⟨g,off,none⟩/\g<w.heap.size/\w.cell? ⟨g,off+i,none⟩=some u):=hc;have HO:Hid (∀u∈vs,u.oneCell'=true):=hone;have hob:=World.block_lt_of_cell? _ _ h0;have hb2:=World.block_lt_of_cell? _ _ h2;have hw1:wrap64 (0+(vs.length:Int))=(vs.length:Int):=by unfold wrap64;omega
 have hw2:wrap64 ((vs.length:Int)+1)=((vs.length+1:Nat):Int):=by unfold wrap64;omega
 have hlt1:¬((vs.length:Int)<0):=by omega
 have hlt2:¬(((vs.length+1:Nat):Int)<0):=by omega
 have HG:Hid (Calls prog 393 #[.slice none 0 0,.int .i64 ((vs.length+1:Nat):Int)] w fun e w'=>∃cap,vs.length+1<=cap/\e=.returned (.slice (some ⟨w.heap.size,0,none⟩) 0 cap)/\Below w.heap.size w w'/\w'.ownsRow w.heap.size TVal 1 (.slice (some ⟨w.heap.size,0,none⟩) 0 cap) 0 []/\w.heap.size<w'.heap.size):=p_grow w (vs.length+1) (by omega) (by omega);clear hc hone;go_enter func391,ntmps391;go_wp2_with fail;refine wp_loop_rounds 3 ?_;rw [rounds_succ];go_wp2_with fail;rw [rounds_succ];go_wp2_with fail;rw [rounds_succ];go_wp2_with (go_at_call 393;refine Calls.mono HG.out ?_;rintro e wg ⟨cg,hcg,rfl,hBg,hog,hsg⟩;have k0:=(hBg.cell (p:=⟨ob,0,none⟩) hob).trans h0;have k1:=(hBg.cell (p:=⟨ob,1,none⟩) hob).trans h1);have keep:∀{x:Value} {n:Nat} {xs:List Value} {w1:World},wg.ownsRow w.heap.size TVal 1 x n xs->wg.grownBy w1 x.ownBlock->Below w.heap.size w w1:=fun hx hg=>hBg.grown hg hBg.size (fun k hk=>(hx.lt k hk).1);have HBg:Hid (Below w.heap.size w wg):=hBg;have HV:Hid (v.oneCell'=true):=hv;refine wp_loop_rounds 3 ?_;by_cases hao:∃a,ao=some a
 ·obtain⟨a,rfl⟩:=hao;have hnews:∀(j:Nat)(u:Value),vs[j]?=some u->wg.cell? (a.add j)=some u:=fun j u hj=>by obtain⟨g,off,e,hg,hc⟩:=HC.out j u hj;simp only [Option.some.injEq] at e;subst e;rw [Addr.add_lit];exact(hBg.cell (p:=⟨g,off+j,none⟩) hg).trans hc
  have hone:=HO.out;clear HC HO HG;rw [rounds_succ];go_wp2_with (at_builtin;refine wpList_append_own _ rfl _ _ 350 rfl w.heap.size TVal i0 .nilIface 1 16 underlying350 hi0 hz0 hz1 hz2 rfl (by decide) _ 0 [] rfl hog a vs.length cap vs rfl (by simp) hnews hone (by unfold maxLen;omega) (by omega) hBg.size ?_;intro v1 w1 hown1 hgrow1 _);have hB1:=keep hog hgrow1;simp only [Nat.zero_add,List.nil_append] at hown1;have q1:=(hB1.cell (p:=⟨ob,1,none⟩) hob).trans h1;have q2:=(hB1.cell (p:=⟨b2,0,none⟩) hb2).trans h2;obtain⟨ao1,cap1,rfl,_⟩:=cJ hown1;have HB1:Hid (Below w.heap.size w w1):=hB1;clear hgrow1 hnews hone k0 k1;rw [rounds_succ];go_wp2_with (at_builtin;refine wpList_append_own _ rfl _ _ 350 rfl w.heap.size TVal i0 .nilIface 1 16 underlying350 hi0 hz0 hz1 hz2 rfl (by decide) _ vs.length vs rfl hown1 ⟨b2,0,none⟩ 1 1 [v] rfl (by simp) (fun j u hj=>(by cases j with | zero=>simp at hj;subst hj;simpa [Addr.add_lit] using q2 | succ j=>simp at hj)) (fun u hu=>(by simp at hu;subst hu;exact HV.out)) (by unfold maxLen;omega) (by omega) hB1.size ?_;intro v2 w2 hown2 hgrow2 hnil2);have hB2:Below w.heap.size w w2:=HB1.out.grown hgrow2 HB1.out.size (fun k hk=>(hown1.lt k hk).1)
  have HX:Hid (CatQ w (vs++[v]) v2 w2):=by
   refine⟨hB2,by simpa using hown2,?_⟩;rcases hown2.2 with⟨_,hz⟩ | ⟨g,c,cur,rfl,_⟩
   ·omega
   ·exact⟨g,c,by simp⟩
  obtain⟨ao2,cap2,rfl,_⟩:=cJ hown2;clear hown2 hgrow2 hnil2 hB2;rw [rounds_succ];go_wp2_with fail;go_ret;exact⟨_,rfl,HX.out⟩
 ·obtain rfl:ao=none:=by
   cases ao with
   | none=>rfl
   | some a=>exact absurd ⟨a,rfl⟩ hao
  have hv0:vs=[]:=by
   cases vs with
   | nil=>rfl
   | cons u us=>obtain⟨g,off,e,_⟩:=HC.out 0 u rfl;cases e
  subst hv0;have hap:=sR (P:=prog) wg w.heap.size 350 350 TVal i0 1 underlying350 hi0 _ 0 [] hog cap;have q2:=(hBg.cell (p:=⟨b2,0,none⟩) hb2).trans h2;simp only [List.length_nil] at k0 hog;clear HC HO HG;rw [rounds_succ];go_wp2_with (at_builtin;refine dC _ rfl _ _ 350 350 rfl _ rfl _ rfl 350 rfl hap ?_);rw [rounds_succ];go_wp2_with (at_builtin;refine wpList_append_own _ rfl _ _ 350 rfl w.heap.size TVal i0 .nilIface 1 16 underlying350 hi0 hz0 hz1 hz2 rfl (by decide) _ 0 [] rfl hog ⟨b2,0,none⟩ 1 1 [v] rfl (by simp) (fun j u hj=>(by cases j with | zero=>simp at hj;subst hj;simpa [Addr.add_lit] using q2 | succ j=>simp at hj)) (fun u hu=>(by simp at hu;subst hu;exact HV.out)) (by unfold maxLen;omega) (by omega) hBg.size ?_;intro v2 w2 hown2 hgrow2 hnil2);have hB2:=keep hog hgrow2
  have HX:Hid (CatQ w ([]++[v]) v2 w2):=by
   refine⟨hB2,by simpa using hown2,?_⟩;rcases hown2.2 with⟨_,hz⟩ | ⟨g,c,cur,rfl,_⟩
   ·omega
   ·exact⟨g,c,by simp⟩
  obtain⟨ao2,cap2,rfl,_⟩:=cJ hown2;clear hown2 hgrow2 hnil2 hB2;rw [rounds_succ];go_wp2_with fail;go_ret;exact⟨_,rfl,HX.out⟩
end
end Go.Proofs.YtkgbdddkcjpgfaaGreatDoor
