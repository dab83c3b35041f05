import Derived.Test.YtkgbdddkcjpgfaaGreatDoorC22
namespace Go.Proofs.YtkgbdddkcjpgfaaGreatDoor
set_option maxHeartbeats 4000000
set_option maxRecDepth 100000
open Go.Proofs.Tryz
open Pl (PV PW Byt prim2 sameW consW displayW)
section
open Go.RowKit Go.Lib
theorem vE(w:World)(s:Sg)(W:PW)(g off cap n:Nat)(u v ov:Value)(a b:PV)(hp:Prm w)(hL:Lie w s W.pairs n)(c0:w.cell? ⟨g,off,none⟩=some u)(c1:w.cell? ⟨g,off+1,none⟩=some v)(hu:RV s u a)(hv:RV s v b) :Calls prog 314 #[.int .i64 10,.slice (some ⟨g,off,none⟩) 2 cap,ov] w fun e w'=>Below w.heap.size w w'/\PrQ W s (fun S=>prim2 W S sameW a b) e:=by
 obtain⟨p0,p1⟩:=hp 10 sameW rfl (by decide);have p0':w.cell? ⟨1,10*2,none⟩=some (.string ⟨Pl.sameW.toArray⟩):=p0;have p1':w.cell? ⟨1,10*2+1,none⟩=some (.int .i64 2):=p1;have HC:Hid (∀w',CkYes sameW 2 w' (some ⟨g,off,none⟩) cap):=fun w'=>eE sameW (by decide) 2 (by decide) w' _ cap;clear p0 p1;have hq0:=hu.eqv hv hL;have hq1:=hu.eqv hv (hL.below ((Below.refl n w).drew));have hq2:=hu.eqv hv (hL.below ((Below.refl n w).drew.drew));have HR:Hid (∀S,prim2 W S sameW a b=⟨0,W,S.give (.truth (decide (a=b)))⟩):=fun S=>(if_neg (show ¬sameW=consW from by decide)).trans (if_pos rfl);obtain⟨T,x,rfl⟩:=hu.iface;obtain⟨T',x',rfl⟩:=hv.iface;clear hp hL hu hv;go_enter func314,ntmps314;go_wp2_with fail;go_region_with (go_at_call 298;refine Calls.mono (HC.out _) ?_;rintro e w' ⟨rfl,rfl⟩)
 all_goals
  go_wp2_with fail
  go_region
  all_goals
   go_wp2_with fail
   go_ret2;exact⟨(Below.refl _ _).drew.drew,.inl ⟨_,.truth (decide (a=b)),rfl,.truth _,HR.out⟩⟩
theorem y9(w:World)(g off cap:Nat)(u v ov:Value)(hp:Prm w)(c0:w.cell? ⟨g,off,none⟩=some u)(c1:w.cell? ⟨g,off+1,none⟩=some v)(hu:∃T x,u=.iface T x)(hv:∃T x,v=.iface T x) :Calls prog 314 #[.int .i64 5,.slice (some ⟨g,off,none⟩) 2 cap,ov] w fun e w'=>∃wa,Below w.heap.size w wa/\w'=wa.alloc (.cells #[u,v] TPair)/\e=.returned (.tuple #[.iface 367 (.pointer (some ⟨wa.heap.size,0,none⟩)),.nilIface]):=by
 obtain⟨p0,p1⟩:=hp 5 consW rfl (by decide);have p0':w.cell? ⟨1,5*2,none⟩=some (.string ⟨Pl.consW.toArray⟩):=p0;have p1':w.cell? ⟨1,5*2+1,none⟩=some (.int .i64 2):=p1;have HC:Hid (∀w',CkYes consW 2 w' (some ⟨g,off,none⟩) cap):=fun w'=>eE consW (by decide) 2 (by decide) w' _ cap;clear p0 p1;obtain⟨T,x,rfl⟩:=hu;obtain⟨T',x',rfl⟩:=hv;clear hp;go_enter func314,ntmps314;go_wp2_with fail;go_region_with (go_at_call 298;refine Calls.mono (HC.out _) ?_;rintro e w' ⟨rfl,rfl⟩)
 all_goals
  go_wp2_with fail
  go_region
  all_goals
   go_wp2_with fail
   go_ret2;exact⟨w.drew.drew,(Below.refl _ _).drew.drew,rfl,rfl⟩
theorem sS{P:Program}(w:World)(t u ty e:TypeId)(i:TypeInfo)(ht:P.underlying t=some (.slice e))(hu:P.underlying u=some .string)(hi:P.info? e=some i)(hz:i.zero=some (.int .u8 0))(hsize:i.size=1)(hby:i.bytes=1)
  (v:Value) (n:Nat) (xs:List Value) (hown:w.ownsRow 0 e 1 v n xs) (s:ByteArray) (hs:n+s.size<=1000000) :
  ∃v' w',(Builtin.append_ #[t,u] ty #[v,.string s]).run P w=.ok v' w'/\w'.ownsRow 0 e 1 v' (n+s.size) (xs++strCells s)/\w.grownBy w' v.ownBlock/\∀g,v'.ownBlock=some g->v.ownBlock=some g\/w.heap.size<=g:=by
 rcases hown.2 with⟨rfl,rfl⟩ | ⟨g,cap,cur,rfl,_,hg,hnc,hcm,hcs,htake⟩
 ·have hx:xs=[]:=List.eq_nil_of_length_eq_zero (by simpa using hown.1);subst hx;obtain⟨v',w',hr,h1,h2,_⟩:=run_append_own_string (P:=P) w w.heap.size t u ty e i ht hu hi hz hsize hby (.slice none 0 0) 0 [] (World.ownsRow_nil _ _ _ _) s (by unfold maxLen;omega) (by omega) (Nat.le_refl _);exact⟨v',w',hr,⟨h1.1,h1.2.imp id (fun⟨g,cap,cur,e1,_,r⟩=>⟨g,cap,cur,e1,Nat.zero_le _,r⟩)⟩,h2,fun g hg=>.inr (h1.lt g hg).1⟩
 ·obtain⟨v',w',hr,h1,h2,_⟩:=run_append_own_string (P:=P) w 0 t u ty e i ht hu hi hz hsize hby _ n xs hown s (by unfold maxLen;omega) (by omega) (Nat.zero_le _);refine⟨v',w',hr,h1,h2,fun k hk=>?_⟩;by_cases hroom:n+s.size<=cap
  ·have hr2:=run_append_room_string (P:=P) w t u ty e i ht hu hi hsize g n cap cur hg s hroom (by simp at hcs;omega);rw [hr] at hr2;simp only [Result.ok.injEq] at hr2;obtain⟨rfl,_⟩:=hr2;exact .inl hk
  ·have hr2:=run_append_grow_string (P:=P) w t u ty e i (.int .u8 0) ht hu hi hz ⟨g,0,none⟩ n cap xs (by rw [hsize];simpa using hown.1) (hown.cells (g:=g) rfl) s (by omega) (by omega) (by rw [hby];exact growslice_fits (by omega) (by omega));rw [hr] at hr2;simp only [Result.ok.injEq] at hr2;obtain⟨rfl,_⟩:=hr2;simp only [Value.ownBlock,Option.some.injEq] at hk;exact .inr (by omega)
theorem gK{P:Program}(w:World){ops:Array Oper}{rest:List Oper}{o:Oper}{a:Act}{Q:Exit->Act->World->Prop}(hgd:o.guard=none)(sl x:Operand)(t u:TypeId)
  (ho:o.op=.call {callee:=.builtin .append,args:=#[sl,x],argTypes:=#[t,u]}) (v:Value) (hs:a.eval sl=v) (s:ByteArray) (hx:a.eval x=.string s) {v':Value} {w':World} (ty:TypeId) (hty:o.type=ty) (hr:(Builtin.append_ #[t,u] ty #[v,.string s]).run P w=.ok v' w') (h:wpList P ops Q rest (a.put o.dst v') w'):wpList P ops Q (o::rest) a w:=by
 refine wpList_plain hgd fun K hK=>?_;unfold Oper.wp execOp;simp only [ho,resolve,invoke,builtin,Sem.run_bind,Sem.run_pure,Result.andThen_ok,List.map_toArray,List.map_cons,List.map_nil,hs,hx,hty,hr];exact hK _ _ h
theorem gA{w w':World}{base:Nat}{e:TypeId}{sz:Nat}{v:Value}{n:Nat}{xs:List Value}(h:w.ownsRow base e sz v n xs)(hk:∀g,v.ownBlock=some g->w'.heap[g]?=w.heap[g]?):w'.ownsRow base e sz v n xs:=by refine⟨h.1,h.2.imp id ?_⟩;rintro⟨g,cap,cur,rfl,h1,h2,r⟩;exact⟨g,cap,cur,rfl,h1,(hk g rfl).trans h2,r⟩
def OutAdd(w:World)(ob off:Nat)(sv:Value)(l:Byt)(w':World):Prop:=∃v' w1,w1.ownsRow 0 TBy 1 v' l.length (cC l)/\w.grownBy w1 sv.ownBlock/\(∀g,v'.ownBlock=some g->sv.ownBlock=some g\/w.heap.size<=g)/\w'=w1.setCell ⟨ob,off,none⟩ v'
theorem yL(w:World)(ob off:Nat)(cs:Array Value)(T:TypeId)(sv:Value)(out:Byt)(s:ByteArray)(hb:w.heap[ob]?=some (.cells cs T (0,0)))(hc:cs[off]?=some sv)(hown:w.ownsRow 0 TBy 1 sv out.length (cC out))(hT:T≠TBy)(hs:s.size<=1000)(ho:out.length<=1000) :Calls prog 327 #[.pointer (some ⟨ob,off,none⟩),.string s] w fun e w'=>(1000<out.length+s.size/\e=.returned (.bool false)/\w=w')\/(out.length+s.size<=1000/\e=.returned (.bool true)/\OutAdd w ob off sv (out++s.data.toList) w'):=by
 have c0:w.cell? ⟨ob,off,none⟩=some sv:=(aA hb off).trans hc;obtain⟨i0,hi0,hz0,hz1,hz2⟩:=wG;obtain⟨v1,w1,hr1,hown1,hgrow1,hnew1⟩:=sS (P:=prog) w 165 9 165 TBy i0 underlying165 underlying9 hi0 hz0 hz1 hz2 sv out.length (cC out) hown s (by omega)
 have hne:some ob≠sv.ownBlock:=fun e=>by
  rcases hown.2 with⟨rfl,_⟩ | ⟨g,cap,cur,rfl,_,hg,_⟩
  ·cases e
  ·simp only [Value.ownBlock,Option.some.injEq] at e;subst e;rw [hb] at hg;simp only [Option.some.injEq,Obj.cells.injEq] at hg;exact hT hg.2.1
 have hb1:=(hgrow1.block ob (aB hb) hne).trans hb;have c1:w1.cell? ⟨ob,off,none⟩=some sv:=(aA hb1 off).trans hc;have f1:w1.frozen? ⟨ob,off,none⟩=false:=aF hb1 off;obtain⟨ao,cap,rfl,hcap,_⟩:=cJ hown;have HX:Hid (OutAdd w ob off (.slice ao out.length cap) (out++s.data.toList) (w1.setCell ⟨ob,off,none⟩ v1)):=⟨v1,w1,by rw [fB,List.length_append];exact hown1,hgrow1,hnew1,rfl⟩
 obtain⟨ao1,cap1,rfl,_⟩:=cJ hown1;clear hown hown1 hgrow1 hnew1 hb hb1 hne hi0 hz0 hz1 hz2 hc;by_cases hg:1000<out.length+s.size
 ·have hd:decide ((1000:Int)<(out.length:Int)+(s.size:Int))=true:=by simp;omega
  have hw:wrap64 ((out.length:Int)+(s.size:Int))=(out.length:Int)+(s.size:Int):=by unfold wrap64;omega
  go_enter func327,ntmps327
  go_wp2_with fail
  go_ret;exact .inl ⟨hg,rfl,rfl⟩
 ·have hd:decide ((1000:Int)<(out.length:Int)+(s.size:Int))=false:=by simp;omega
  have hw:wrap64 ((out.length:Int)+(s.size:Int))=(out.length:Int)+(s.size:Int):=by unfold wrap64;omega
  go_enter func327,ntmps327
  go_wp2_with (at_builtin;refine gK _ rfl _ _ 165 9 rfl _ rfl s rfl 165 rfl hr1 ?_)
  go_ret;exact .inr ⟨by omega,rfl,HX.out⟩
def DispQ(W:PW)(w:World)(ob off:Nat)(sv:Value)(out:Byt)(p:PV)(e:Ending)(w':World):Prop :=
 (1000<out.length+(Pl.cut (Pl.text W.pairs p)).length/\Below w.heap.size w w'/\∃es,e=.returned (.tuple #[.nilIface,aY es 11])) \/
 (out.length+(Pl.cut (Pl.text W.pairs p)).length<=1000/\e=.returned (.tuple #[.iface 299 (.agg #[]),.nilIface])/\∃wa,Below w.heap.size w wa/\OutAdd wa ob off sv (out++Pl.cut (Pl.text W.pairs p)) w')
theorem vA(w:World)(s:Sg)(W:PW)(hP:WfQ W)(ob off:Nat)(cs:Array Value)(T:TypeId)(sv:Value)(out:Byt)(v:Value)(p:PV)(hp:Prm w)(hL:Lie w s W.pairs w.heap.size)(hv:RV s v p)(hw:WfV W p)(hb:w.heap[ob]?=some (.cells cs T (0,0)))(hc:cs[off]?=some sv)(hown:w.ownsRow 0 TBy 1 sv out.length (cC out))(hT:T≠TBy)(ho:out.length<=1000) :Calls prog 321 #[.int .i64 11,v,.pointer (some ⟨ob,off,none⟩)] w fun e w'=>DispQ W w ob off sv out p e w':=by
 have HS:Hid (Calls prog 126 #[v] w fun e w'=>e=.returned (.string ⟨(Pl.cut (Pl.text W.pairs p)).toArray⟩)/\Below w.heap.size w w'):=hH W hP s w v p hL hv hw;have hcl:=Pl.cut_len (Pl.text W.pairs p);have HA:Hid (∀w1,Below w.heap.size w w1->Calls prog 327 #[.pointer (some ⟨ob,off,none⟩),.string ⟨(Pl.cut (Pl.text W.pairs p)).toArray⟩] w1 fun e w'=>(1000<out.length+(Pl.cut (Pl.text W.pairs p)).length/\e=.returned (.bool false)/\w1=w')\/(out.length+(Pl.cut (Pl.text W.pairs p)).length<=1000/\e=.returned (.bool true)/\OutAdd w1 ob off sv (out++Pl.cut (Pl.text W.pairs p)) w')):=fun w1 hB =>yL w1 ob off cs T sv out _ ((hB.block ob (aB hb)).trans hb) hc (gA hown (fun g hg=>hB.block g (hown.lt g hg).2)) hT (by show Array.size _<=_;simp;omega) ho;have HF:Hid (∀w1,Below w.heap.size w w1->Calls prog 326 #[.int .i64 11,.int .i64 11] w1 fun e w2=>w1=w2/\∃es,e=.returned (aY es 11)):=fun w1 hB=>dD 11 displayW 11 w1 (hp.below hB) rfl (by decide);obtain⟨T1,x1,rfl⟩:=hv.iface;clear hP hp hL hv hw hb hc hown hT ho hcl;unfold DispQ;generalize Pl.cut (Pl.text W.pairs p)=t at *;go_enter func321,ntmps321
 go_wp2_with (first
  | (go_at_call 126;refine Calls.mono HS.out ?_;rintro e w1 ⟨rfl,hB1⟩)
  | (go_at_call 327;refine(HA.out _ hB1).mono ?_;rintro e w2 (⟨hg,rfl,rfl⟩ | ⟨hg,rfl,HO⟩))
  | (go_at_call 326;refine(HF.out _ hB1).mono ?_;rintro e w3 ⟨rfl,es,rfl⟩))
 ·go_ret2;exact .inl ⟨hg,hB1,es,rfl⟩
 ·go_ret2;exact .inr ⟨hg,rfl,w1,hB1,HO⟩
theorem vD(w:World)(s:Sg)(W:PW)(hP:WfQ W)(ob oo:Nat)(cs:Array Value)(T:TypeId)(sv:Value)(out:Byt)(g off cap:Nat)(v:Value)(p:PV)(hp:Prm w)(hL:Lie w s W.pairs w.heap.size)(hv:RV s v p)(hw:WfV W p)(hb:w.heap[ob]?=some (.cells cs T (0,0)))(hc:cs[oo]?=some sv)(hown:w.ownsRow 0 TBy 1 sv out.length (cC out))(hT:T≠TBy)(ho:out.length<=1000)(c0:w.cell? ⟨g,off,none⟩=some v) :Calls prog 314 #[.int .i64 11,.slice (some ⟨g,off,none⟩) 1 cap,.pointer (some ⟨ob,oo,none⟩)] w fun e w'=>DispQ W w ob oo sv out p e w':=by
 obtain⟨p0,p1⟩:=hp 11 displayW rfl (by decide);have p0':w.cell? ⟨1,11*2,none⟩=some (.string ⟨Pl.displayW.toArray⟩):=p0;have p1':w.cell? ⟨1,11*2+1,none⟩=some (.int .i64 1):=p1;have HC:Hid (∀w',CkYes displayW 1 w' (some ⟨g,off,none⟩) cap):=fun w'=>eE displayW (by decide) 1 (by decide) w' _ cap;clear p0 p1
 have HD:Hid (∀w1,w1=w.drew->Calls prog 321 #[.int .i64 11,v,.pointer (some ⟨ob,oo,none⟩)] w1 fun e w'=>∃v1 e1,e=.returned (.tuple #[v1,e1])/\Hid (DispQ W w ob oo sv out p (.returned (.tuple #[v1,e1])) w')):=fun w1 e1=>by
  subst e1;refine(vA w.drew s W hP ob oo cs T sv out v p hp (hL.below ((Below.refl _ w).drew)) hv hw hb hc hown hT ho).mono (fun e w' h=>?_);rcases h with⟨h1,h2,es,rfl⟩ | ⟨h1,rfl,wa,h2,h3⟩
  ·exact⟨_,_,rfl,.inl ⟨h1,(Below.refl _ w).drew.trans h2,es,rfl⟩⟩
  ·exact⟨_,_,rfl,.inr ⟨h1,rfl,wa,(Below.refl _ w).drew.trans h2,h3⟩⟩
 obtain⟨T1,x1,rfl⟩:=hv.iface;clear hP hp hL hv hw hb hc hown hT ho;go_enter func314,ntmps314;go_wp2_with fail;go_region_with (go_at_call 298;refine Calls.mono (HC.out _) ?_;rintro e w' ⟨rfl,rfl⟩)
 all_goals
  go_wp2_with (go_at_call 321;refine(HD.out _ rfl).mono ?_;rintro e w2 ⟨v1,e1,rfl,HQ⟩)
  go_ret2;exact HQ.out
end
end Go.Proofs.YtkgbdddkcjpgfaaGreatDoor
