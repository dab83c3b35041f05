import Derived.Test.YtbgghmjmcapmlaaGreatDoorF11
namespace Go.Proofs.YtbgghmjmcapmlaaGreatDoor
set_option maxHeartbeats 4000000
set_option maxRecDepth 100000
open Go.Proofs.Tryz
open Pl (PV PW AE A2 BR CS A7)
section
open Go.RowKit Go.Lib
theorem vE(w:World)(s:Sg)(W:PW)(g c d n:Nat)(u v m:Value)(a b:PV)(hp:EH w)(j:QB w s W.pairs n)(A:w.cell? ⟨g,c,none⟩=some u)(B:w.cell? ⟨g,c+1,none⟩=some v)(h:RV s u a)(i:RV s v b) :Q2 235 #[Q1 10,.slice (some ⟨g,c,none⟩) 2 d,m] w fun e f=>Q3 w f/\GZ W s (fun S=>A2 W S BR a b) e:=by
 obtain⟨k,l⟩:=hp 10 BR rfl w8;have o:w.cell? ⟨0,10*2,none⟩=some (.string ⟨Pl.BR.toArray⟩):=k;have p:w.cell? ⟨0,10*2+1,none⟩=some (Q1 2):=l;have q:Hid (∀f,GC BR 2 f (some ⟨g,c,none⟩) d):=fun f=>eE BR w8 2 w8 f _ d;clear k l;have r:=h.eqv i j;have t:=h.eqv i (j.below ((Below.refl n w).drew));have y:=h.eqv i (j.below ((Below.refl n w).drew.drew));have z:Hid (∀S,A2 W S BR a b=⟨0,W,S.A1 (.AT (decide (a=b)))⟩):=fun S=>(if_neg (show ¬BR=CS from by decide)).trans (if_pos rfl);obtain⟨T,x,rfl⟩:=h.iface;obtain⟨C,D,rfl⟩:=i.iface;clear hp j h i;go_enter func235,ntmps235;go_wp2_with fail;go_region_with (go_at_call 219;refine Calls.mono (q _) ?_;rintro e f ⟨rfl,rfl⟩)
 all_goals
  go_wp2_with fail
  go_region
  all_goals
   go_wp2_with fail
   go_ret2;exact⟨r_.drew.drew,.inl ⟨_,.AT (decide (a=b)),rfl,.AT _,z⟩⟩
theorem y9(w:World)(g a b:Nat)(u v i:Value)(hp:EH w)(o:w.cell? ⟨g,a,none⟩=some u)(p:w.cell? ⟨g,a+1,none⟩=some v)(j:∃T x,u=.iface T x)(k:∃T x,v=.iface T x) :Q2 235 #[Q1 5,.slice (some ⟨g,a,none⟩) 2 b,i] w fun e c=>∃d,Q3 w d/\c=d.alloc (.cells #[u,v] E0)/\e=.returned (.tuple #[.iface 272 (Q0 d.heap.size),.nilIface]):=by
 obtain⟨f,h⟩:=hp 5 CS rfl w8;have l:w.cell? ⟨0,5*2,none⟩=some (.string ⟨Pl.CS.toArray⟩):=f;have m:w.cell? ⟨0,5*2+1,none⟩=some (Q1 2):=h;have n:Hid (∀c,GC CS 2 c (some ⟨g,a,none⟩) b):=fun c=>eE CS w8 2 w8 c _ b;clear f h;obtain⟨T,x,rfl⟩:=j;obtain⟨q,r,rfl⟩:=k;clear hp;go_enter func235,ntmps235;go_wp2_with fail;go_region_with (go_at_call 219;refine Calls.mono (n _) ?_;rintro e c ⟨rfl,rfl⟩)
 all_goals
  go_wp2_with fail
  go_region
  all_goals
   go_wp2_with fail
   go_ret2;exact⟨w.drew.drew,r_.drew.drew,rfl,rfl⟩
theorem sS{P:Program}(w:World)(t u o e:TypeId)(i:TypeInfo)(y:P.underlying t=some (.slice e))(z:P.underlying u=some .string)(hi:P.info? e=some i)(A:i.zero=some (.int .u8 0))(a:i.size=1)(f:i.bytes=1)
  (v:Value) (n:Nat) (p:List Value) (b:w.ownsRow 0 e 1 v n p) (s:Q8) (K:n+s.size<=1000000) :
  ∃h j,(Builtin.append_ #[t,u] o #[v,.string s]).run P w=.ok h j/\j.ownsRow 0 e 1 h (n+s.size) (p++strCells s)/\w.grownBy j v.ownBlock/\∀g,h.ownBlock=some g->v.ownBlock=some g\/w.heap.size<=g:=by
 rcases b.2 with⟨rfl,rfl⟩ | ⟨g,d,l,rfl,_,B,G,H,C,D⟩
 ·have I:p=[]:=e_ (by simpa using b.1);subst I;obtain⟨h,j,q,x,E,_⟩:=run_append_own_string (P:=P) w w.heap.size t u o e i y z hi A a f (.slice none 0 0) 0 [] (World.ownsRow_nil _ _ _ _) s o6 x8 n_;exact⟨h,j,q,⟨x.1,x.2.imp id (fun⟨g,d,l,J,_,r⟩=>⟨g,d,l,J,Nat.zero_le _,r⟩)⟩,E,fun g B=>.inr (x.lt g B).1⟩
 ·obtain⟨h,j,q,x,E,_⟩:=run_append_own_string (P:=P) w 0 t u o e i y z hi A a f _ n p b s o6 x8 (Nat.zero_le _);refine⟨h,j,q,x,E,fun k F=>?_⟩;by_cases m:n+s.size<=d
  ·have c:=run_append_room_string (P:=P) w t u o e i y z hi a g n d l B s m (by simp at C;omega);rw [q] at c;simp only [Result.ok.injEq] at c;obtain⟨rfl,_⟩:=c;exact .inl F
  ·have c:=run_append_grow_string (P:=P) w t u o e i (.int .u8 0) y z hi A ⟨g,0,none⟩ n d p (by rw [a];simpa using b.1) (b.cells (g:=g) rfl) s x8 x8 (by rw [f];exact growslice_fits x8 x8);rw [q] at c;simp only [Result.ok.injEq] at c;obtain⟨rfl,_⟩:=c;simp only [Value.ownBlock,o_] at F;exact .inr x8
theorem gK{P:Program}(w:World){b:Array Oper}{rest:List Oper}{o:Oper}{a:Act}{Q:Exit->Act->World->Prop}(c:o.guard=none)(sl x:Operand)(t u:TypeId)
  (f:o.op=.call {callee:=.builtin .append,args:=#[sl,x],argTypes:=#[t,u]}) (v:Value) (g:a.eval sl=v) (s:Q8) (i:a.eval x=.string s) {v':Value} {w':World} (e:TypeId) (d:o.type=e) (j:(Builtin.append_ #[t,u] e #[v,.string s]).run P w=.ok v' w') (h:wpList P b Q rest (a.put o.dst v') w'):wpList P b Q (o::rest) a w:=by
 refine wpList_plain c fun K k=>?_;unfold Oper.wp execOp;simp only [f,resolve,invoke,builtin,Sem.run_bind,Sem.run_pure,Result.andThen_ok,List.map_toArray,List.map_cons,List.map_nil,g,i,d,j];exact k _ _ h
theorem gA{w w':World}{base:Nat}{e:TypeId}{sz:Nat}{v:Value}{n:Nat}{xs:List Value}(h:w.ownsRow base e sz v n xs)(c:∀g,v.ownBlock=some g->w'.heap[g]?=w.heap[g]?):w'.ownsRow base e sz v n xs:=by refine⟨h.1,h.2.imp id ?_⟩;rintro⟨g,a,b,rfl,d,f,r⟩;exact⟨g,a,b,rfl,d,(c g rfl).trans f,r⟩
def NB(w:World)(ob off:Nat)(sv:Value)(l:AE)(w':World):Prop:=∃v' w1,w1.ownsRow 0 JM 1 v' l.length (byCells l)/\w.grownBy w1 sv.ownBlock/\(∀g,v'.ownBlock=some g->sv.ownBlock=some g\/w.heap.size<=g)/\w'=w1.setCell ⟨ob,off,none⟩ v'
theorem yL(w:World)(i b:Nat)(cs:Array Value)(T:TypeId)(j:Value)(a:AE)(s:Q8)(l:w.heap[i]?=some (.cells cs T (0,0)))(v:cs[b]?=some j)(f:w.ownsRow 0 JM 1 j a.length (byCells a))(C:T≠JM)(K:s.size<=1000)(L:a.length<=1000) :Q2 248 #[.pointer (some ⟨i,b,none⟩),.string s] w fun e y=>(1000<a.length+s.size/\e=.returned (.bool false)/\w=y)\/(a.length+s.size<=1000/\e=.returned (.bool true)/\NB w i b j (a++s.data.toList) y):=by
 have M:w.cell? ⟨i,b,none⟩=some j:=(aA l b).trans v;obtain⟨D,m,n,o,p⟩:=wG;obtain⟨z,u,x,d,c,h⟩:=sS (P:=prog) w 226 9 226 JM D underlying226 underlying9 m n o p j a.length (byCells a) f s x8
 have q:some i≠j.ownBlock:=fun e=>by
  rcases f.2 with⟨rfl,_⟩ | ⟨g,r,E,rfl,_,t,_⟩
  ·cases e
  ·simp only [Value.ownBlock,o_] at e;subst e;rw [l] at t;simp only [o_,Obj.cells.injEq] at t;exact C t.2.1
 have k:=(c.block i (aB l) q).trans l;have N:u.cell? ⟨i,b,none⟩=some j:=(aA k b).trans v;have O:u.frozen? ⟨i,b,none⟩=false:=aF k b;obtain⟨F,r,rfl,A,_⟩:=cJ f;have G:Hid (NB w i b (.slice F a.length r) (a++s.data.toList) (u.setCell ⟨i,b,none⟩ z)):=⟨z,u,by rw [fB,a_];exact d,c,h,rfl⟩
 obtain⟨H,B,rfl,_⟩:=cJ d;clear f d c h l k q m n o p v;by_cases t:1000<a.length+s.size
 ·have I:decide ((1000:Int)<(a.length:Int)+(s.size:Int))=true:=by simp;omega
  have J:wrap64 ((a.length:Int)+(s.size:Int))=(a.length:Int)+(s.size:Int):=by unfold wrap64;omega
  go_enter func248,ntmps248
  go_wp2_with fail
  go_ret;exact .inl ⟨t,rfl,rfl⟩
 ·have I:decide ((1000:Int)<(a.length:Int)+(s.size:Int))=false:=by simp;omega
  have J:wrap64 ((a.length:Int)+(s.size:Int))=(a.length:Int)+(s.size:Int):=by unfold wrap64;omega
  go_enter func248,ntmps248
  go_wp2_with (at_builtin;refine gK _ rfl _ _ 226 9 rfl _ rfl s rfl 226 rfl x ?_)
  go_ret;exact .inr ⟨x8,rfl,G⟩
def OR(W:PW)(w:World)(ob off:Nat)(sv:Value)(out:AE)(p:PV)(e:Ending)(w':World):Prop :=
 (1000<out.length+(Pl.cut (Pl.text W.pairs p)).length/\Q3 w w'/\∃es,e=.returned (.tuple #[.nilIface,aY es 11])) \/
 (out.length+(Pl.cut (Pl.text W.pairs p)).length<=1000/\e=.returned (.tuple #[.iface 242 (.agg #[]),.nilIface])/\∃wa,Q3 w wa/\NB wa ob off sv (out++Pl.cut (Pl.text W.pairs p)) w')
theorem vA(w:World)(s:Sg)(W:PW)(r:OU W)(h c:Nat)(cs:Array Value)(T:TypeId)(i:Value)(a:AE)(v:Value)(p:PV)(hp:EH w)(u:QB w s W.pairs w.heap.size)(m:RV s v p)(x:BL W p)(n:w.heap[h]?=some (.cells cs T (0,0)))(y:cs[c]?=some i)(d:w.ownsRow 0 JM 1 i a.length (byCells a))(z:T≠JM)(A:a.length<=1000) :Q2 242 #[Q1 11,v,.pointer (some ⟨h,c,none⟩)] w fun e k=>OR W w h c i a p e k:=by
 have C:=h_ (hH W r s w v p u m x);have o:=Pl.FL (Pl.text W.pairs p);have D:Hid (∀b,Q3 w b->Q2 248 #[.pointer (some ⟨h,c,none⟩),.string ⟨(Pl.cut (Pl.text W.pairs p)).toArray⟩] b fun e k=>(1000<a.length+(Pl.cut (Pl.text W.pairs p)).length/\e=.returned (.bool false)/\b=k)\/(a.length+(Pl.cut (Pl.text W.pairs p)).length<=1000/\e=.returned (.bool true)/\NB b h c i (a++Pl.cut (Pl.text W.pairs p)) k)):=fun b l =>yL b h c cs T i a _ ((l.block h (aB n)).trans n) y (gA d (fun g j=>l.block g (d.lt g j).2)) z (by show Array.size _<=_;simp;omega) A;have E:Hid (∀b,Q3 w b->Q2 247 #[Q1 11,Q1 11] b fun e B=>b=B/\∃q,e=.returned (aY q 11)):=fun b l=>dD 11 A7 11 b (hp.below l) rfl w8;obtain⟨G,H,rfl⟩:=m.iface;clear r hp u m x n y d z A o;unfold OR;generalize Pl.cut (Pl.text W.pairs p)=t at *;go_enter func242,ntmps242
 go_wp2_with (first
  | (go_at_call 182;refine Calls.mono C ?_;rintro e b ⟨rfl,f⟩)
  | (go_at_call 248;refine(D _ f).mono ?_;rintro e B (⟨j,rfl,rfl⟩ | ⟨j,rfl,F⟩))
  | (go_at_call 247;refine(E _ f).mono ?_;rintro e I ⟨rfl,q,rfl⟩))
 ·go_ret2;exact .inl ⟨j,f,q,rfl⟩
 ·go_ret2;exact .inr ⟨j,rfl,b,f,F⟩
theorem vD(w:World)(s:Sg)(W:PW)(t:OU W)(i j:Nat)(cs:Array Value)(T:TypeId)(k:Value)(a:AE)(g d f:Nat)(v:Value)(p:PV)(hp:EH w)(u:QB w s W.pairs w.heap.size)(m:RV s v p)(x:BL W p)(y:w.heap[i]?=some (.cells cs T (0,0)))(z:cs[j]?=some k)(c:w.ownsRow 0 JM 1 k a.length (byCells a))(A:T≠JM)(B:a.length<=1000)(M:w.cell? ⟨g,d,none⟩=some v) :Q2 235 #[Q1 11,.slice (some ⟨g,d,none⟩) 1 f,.pointer (some ⟨i,j,none⟩)] w fun e b=>OR W w i j k a p e b:=by
 obtain⟨C,D⟩:=hp 11 A7 rfl w8;have E:w.cell? ⟨0,11*2,none⟩=some (.string ⟨Pl.A7.toArray⟩):=C;have F:w.cell? ⟨0,11*2+1,none⟩=some (Q1 1):=D;have G:Hid (∀b,GC A7 1 b (some ⟨g,d,none⟩) f):=fun b=>eE A7 w8 1 w8 b _ f;clear C D
 have H:Hid (∀n,n=w.drew->Q2 242 #[Q1 11,v,.pointer (some ⟨i,j,none⟩)] n fun e b=>∃o l,e=.returned (.tuple #[o,l])/\Hid (OR W w i j k a p (.returned (.tuple #[o,l])) b)):=fun n l=>by
  subst l;refine(vA w.drew s W t i j cs T k a v p hp (u.below ((Below.refl _ w).drew)) m x y z c A B).mono (fun e b h=>?_);rcases h with⟨q,r,I,rfl⟩ | ⟨q,rfl,J,r,K⟩
  ·exact⟨_,_,rfl,.inl ⟨q,(Below.refl _ w).drew.trans r,I,rfl⟩⟩
  ·exact⟨_,_,rfl,.inr ⟨q,rfl,J,(Below.refl _ w).drew.trans r,K⟩⟩
 obtain⟨N,O,rfl⟩:=m.iface;clear t hp u m x y z c A B;go_enter func235,ntmps235;go_wp2_with fail;go_region_with (go_at_call 219;refine Calls.mono (G _) ?_;rintro e b ⟨rfl,rfl⟩)
 all_goals
  go_wp2_with (go_at_call 242;refine(H _ rfl).mono ?_;rintro e P ⟨o,l,rfl,L⟩)
  go_ret2;exact L
end
end Go.Proofs.YtbgghmjmcapmlaaGreatDoor
