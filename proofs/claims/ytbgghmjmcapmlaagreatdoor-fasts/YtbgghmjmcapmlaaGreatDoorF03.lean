import Derived.Test.YtbgghmjmcapmlaaGreatDoorF02
import Derived.BigRegion
import Derived.Deep.RegionHeld3
import Derived.Deep.RegionLaw
import Derived.Laws.AppendOwnNone
import Derived.Deep.RegionWith
namespace Go.Proofs.YtbgghmjmcapmlaaGreatDoor
set_option maxHeartbeats 1000000
set_option maxRecDepth 100000
open Go.Proofs.Tryz
open Pl (EE isName)
theorem zC0{P:Prop}(h:P:=by
 obtain⟨q,i,Q,X,l,R,f⟩:=hrel;clear c0 c1 c2 c3 f1 f2 hc W HT hi HP;obtain⟨c0,c1,c2,c3⟩:=f.rd.cells;have f1:=aF f.rd 1;have Y:=aA f.out.out 3;have Z:=f.LQ.length_le;generalize c:a.length-q.length=E at *
 cases q with
 | nil =>
  have aa:E=a.length:=by simp at c;omega
  subst aa;have aw:decide ((a.length:Int)<(a.length:Int))=false:=by simp
  have j:Hid (Pl.pd (n+1) ([40]::r)=none):=by show Pl.pd _ _=_;rw [Pl.GH n _ r rfl,f.lf.none_];rfl
  clear c;go_wp2_with fail
  go_quiet (fail)
  go_wp2_with fail
  go_quiet (fail)
  go_wp2_with fail
  go_ret;refine⟨bK (bK f.grown _) _,?_⟩;rw [j.out];rfl
 | cons t F =>
  have H:=iS f.LQ;have ab:E<a.length:=by simp at c Z;omega
  have I:a[E]?=some t:=by obtain⟨ac,ad⟩:=Pl.E9 f.LQ rfl;rw [<- c,g_ ac,ad]
  have ae:=mM f.BX I;have aq:(E:Int)<(a.length:Int):=by omega
  have af:Hid (E+1=a.length-F.length):=by rw [<- c];exact H
  clear I H ab;by_cases k:t=[41]
  ·subst k;have j:Hid (Pl.pd (n+1) ([40]::r)=some ⟨.agg Q,F,l+1,R⟩):=by show Pl.pd _ _=_;rw [Pl.GH n _ r rfl,f.lf.close];rfl
   clear c;go_wp2_with fail
   go_quiet (fail)
   go_wp2_with fail
   go_quiet (fail)
   go_wp2_with fail
   go_ret;refine dI j (aC (bK f.grown _) (aE _ _ _ _)) ((f.drewN _).done ap _) ((f.rd.drewN _).KE _) ?_ ?_ ?_
   ·have:=af.out;dsimp only;omega
   ·dsimp only;omega
   ·rfl
  ·have ax:(t==[41])=false:=by simpa using k
   have ay:(t !=[41])=true:=by simpa using k
   have J:=f.len;simp only [c_] at J ah U;go_wp2_with fail
   go_quiet (fail)
   go_wp2_with fail
   refine(HI _ b (.slice (some ⟨G,0,none⟩) a.length P) a (t::F) (max O (C+1+l)) (C+1) (g||R) ((f.rd.drewN _).cast (by simp only [c_]) rfl rfl) ((f.drewN _).BX) f.LQ r7 T r7 x8 z _ x8).mono ?_;rintro e S ⟨m,d⟩;clear c0 c1 c2 c3 f1 Y ae
   cases A:Pl.pd n (t::F) with
   | none =>
    rw [A] at d;dsimp only at d;subst d;have j:Hid (Pl.pd (n+1) ([40]::r)=none):=by show Pl.pd _ _=_;rw [Pl.GH n _ r rfl,f.lf.fail k A];rfl
    have HG:Hid (w.grownBy S (some b)):=aC (bK f.grown _) m;clear A m c;go_wp2_with fail;go_ret;refine⟨HG,?_⟩;rw [j.out];rfl
   | some p =>
    rw [A] at d;obtain⟨v,rfl,s,u⟩:=d;have B:=(show Hid _ from(f.drewN _).call k A m s u)
    obtain⟨vb,rfl⟩:=s.ptr;have ag:mOf a b wr=(t::F).length:=f.m;clear A m u c f;have az:=aA B.out.out 3;have ba:=aF B.out.out 3;have ar:w.heap.size<S.heap.size:=aB B.out.out;have au:=B.q_lt;go_wp2_with (first | (at_builtin;refine wpList_append_lies _ rfl _ _ 123 rfl (w.heap.size+1) 85 i0 (.pointer none) 1 8 underlying123 ai aj ak al rfl w8 i Q.length X rfl (B.row.alloc _) ⟨S.heap.size,0,none⟩ 1 1 [Q0 vb] rfl rfl (cell_one_new _ _ _) (fun x hx=>by simp at hx;subst hx;rfl) w8 o6 x8 r7 (S.heap.size+1) w9 ?_;intro g' av w3 y o K _;obtain⟨bb,bc,M⟩:=B.push y o K;have N:=(show Hid _ from M);clear M))
    go_roundw
    case rel=>exact⟨_,_,_,_,_,_,N⟩
    case measure=>rw [N.m,ag];simp;omega):P:=h
theorem zC1{P:Prop}(h:P:=by clear a c;go_wp2_with fail;go_ret;exact⟨aP (by rw [l.out]),k⟩):P:=h
section
open Go.RowKit
variable {w w' wr a w1 w3:World} {v L kids u kn vv:Value} {n b G k de dpk base g' cap':Nat} {ok:Q5} {g gk:Bool} {vs nvs vvs:List Value} {at_ dp:Int} {r q nm l:Q6} {t:Q7} {o:Obj}
theorem AJ.ptr{t:Tr}(h:AJ ok n w v t):∃b,v=(Q0 b):=by
 cases n with
 | zero=>exact h.elim
 | succ n=>obtain⟨b,a,_⟩:=h;exact⟨b,a⟩
structure G6(n:Nat)(w wr:World)(b G:Nat)(L:Value)(all r:Q6)(dp de:Nat)(g:Bool)(q:Q6)(kids:Value)(ts:List Tr)(vs:List Value)(dpk:Nat)(gk:Bool):Prop where
 LQ:q <:+ all
 len:ts.length+q.length<=r.length
 lf:Pl.LF (Pl.pd n) r ts dpk gk q
 rd:Rd wr b L ((all.length-q.length:Nat):Int) ((max dp (de+1+dpk):Nat):Int) (g||gk)
 BX:DR wr L all
 out:wr.heap[G]?=some (.cells #[kLst,Q1 0,tI,kids] TD (0,0))
 row:wr.ownsRow (G+1) TP 1 kids ts.length vs
 KG:∀(i:Nat)(u:Value)(x:Tr),vs[i]?=some u->ts[i]?=some x->AJ (fun k=>G<k/\kids.ownBlock≠some k) n wr u x
 grown:w.grownBy wr (some b)
 FH:w.heap.size<=G
 bG:b<w.heap.size
theorem G6.start{all:Q6}{dp:Nat}(a:r <:+ all)(e:Rd w1 b L ((all.length-r.length:Nat):Int) ((max dp (de+1):Nat):Int) g)(f:DR w1 L all)
  (c:w.grownBy w1 (some b)) (h:b<w.heap.size) (o:Obj) (j:o=.cells #[kLst,Q1 0,tI,.slice none 0 0] TD (0,0)) (G:Nat) (d:G=w1.heap.size) :
  G6 n w (w1.alloc o) b G L all r dp de g r (.slice none 0 0) [] [] 0 false where
 LQ:=a
 len:=by simp
 lf:=Pl.LF.start _ _
 rd:=(e.alloc o).cast rfl x8 w9
 BX:=World.ownsRow.alloc f o
 out:=by rw [heap_new_of d,j]
 row:=World.ownsRow_nil _ _ _ _
 KG:=fun i u x k=>by simp at k
 grown:=aC c (World.grownBy_alloc _ _ _)
 FH:=by rw [d];exact c.size
 bG:=h
theorem G6.ltG{all:Q6}{dp:Nat}{a:List Tr}(h:G6 n w wr b G L all r dp de g q kids a vs dpk gk):G<wr.heap.size:=aB h.out
theorem G6.drewN{all:Q6}{dp:Nat}{a:List Tr}(h:G6 n w wr b G L all r dp de g q kids a vs dpk gk)(m:Nat):G6 n w (wr.drewN m) b G L all r dp de g q kids a vs dpk gk :=⟨h.LQ,h.len,h.lf,h.rd,h.BX,h.out,h.row,fun i u x c d=>AJ.drewN (h.KG i u x c d),bK h.grown m,h.FH,h.bG⟩
theorem mM{cap:Nat}{all:Q6}(h:DR w (.slice (some ⟨G,0,none⟩) all.length cap) all){i:Nat}(hi:all[i]?=some t):w.cell? ⟨G,i,none⟩=some (.string ⟨t.toArray⟩):=by
 have a:(all.map eB)[i]?=some (eB t):=by rw [List.getElem?_map,hi];rfl
 have:=h.cells (g:=G) rfl i (eB t) a
 rwa [show(⟨G,0,none⟩:Addr).add i=⟨G,i,none⟩ from by rw [Addr.add_lit,Nat.zero_add]] at this
def mOf(all:Q6)(b:Nat)(wr:World):Nat:=all.length-(intOf ((wr.cell? ⟨b,1,none⟩).getD undef)).toNat
theorem G6.m{all:Q6}{dp:Nat}{a:List Tr}(h:G6 n w wr b G L all r dp de g q kids a vs dpk gk):mOf all b wr=q.length:=by unfold mOf;rw [h.rd.cells.2.1];have:=h.LQ.length_le;simp [intOf];omega
structure LMid(n:Nat)(w w2:World)(b G:Nat)(L:Value)(all r:Q6)(dp de:Nat)(g:Bool)(t:Q7)(q0:Q6)(kids:Value)(ts:List Tr)(vs:List Value)(p:Pl.PR)(v:Value)(dpk:Nat)(gk:Bool):Prop where
 LQ:p.q <:+ all
 len:ts.length+1+p.q.length<=r.length
 lf:Pl.LF (Pl.pd n) r (ts++[p.t]) (max dpk p.dp) (gk||p.gr) p.q
 rd:Rd w2 b L ((all.length-p.q.length:Nat):Int) ((max dp (de+1+max dpk p.dp):Nat):Int) (g||(gk||p.gr))
 BX:DR w2 L all
 out:w2.heap[G]?=some (.cells #[kLst,Q1 0,tI,kids] TD (0,0))
 row:w2.ownsRow (G+1) TP 1 kids ts.length vs
 KG:∀(i:Nat)(u:Value)(x:Tr),vs[i]?=some u->ts[i]?=some x->AJ (fun k=>G<k/\kids.ownBlock≠some k) n w2 u x
 new:AJ (fun k=>G<k/\kids.ownBlock≠some k) n w2 v p.t
 grown:w.grownBy w2 (some b)
 FH:w.heap.size<=G
 bG:b<w.heap.size
 lenq:q0.length<q0.length+1/\t=t
 q_lt:p.q.length<q0.length+1
theorem G6.call{w2:World}{all:Q6}{dp:Nat}{q0:Q6}{q:List Tr}{p:Pl.PR}
  (h:G6 n w wr b G L all r dp de g (t::q0) kids q vs dpk gk) (z:¬t=[41]) (hp:Pl.pd n (t::q0)=some p) (c:wr.grownBy w2 (some b)) (d:AJ (fun k=>wr.heap.size<=k) n w2 v p.t)
  (l:Rd w2 b L ((all.length-p.q.length:Nat):Int) ((max (max dp (de+1+dpk)) (de+1+p.dp):Nat):Int) ((g||gk)||p.gr)) :
  LMid n w w2 b G L all r dp de g t q0 kids q vs p v dpk gk:=by
 have a:=Pl.DA n _ _ hp;have f:some G≠some b:=by have:=h.FH;have:=h.bG;intro e;simp only [o_] at e;omega
 have m:∀s,CU s wr w2:=fun s=>CU.DX c h.rd w8 w8;have j:=h.len;have y:=a.2;simp only [c_] at j y;refine⟨a.1.trans h.LQ,x8,h.lf.more z hp a.2,l.cast rfl x8 (by rw [Bool.or_assoc]),h.BX.keep c h.rd,?_,?_,?_,?_,aC h.grown c,h.FH,h.bG,⟨x8,rfl⟩,y⟩
 ·exact(c.block G h.ltG f).trans h.out
 ·refine h.row.kept c ?_;by_cases o:kids.ownBlock=some b
  ·have:=(h.row.lt b o).1;have:=h.FH;have:=h.bG;omega
  ·exact .inr o
 ·exact fun i u x A B=>AJ.keep (m _) _ _ _ (h.KG i u x A B)
 ·refine AJ.mono (fun k _ o=>?_) _ _ _ d;have:=h.ltG;refine⟨x8,fun e=>?_⟩;have:=(h.row.lt k e).2;omega
theorem LMid.push{w2:World}{all:Q6}{dp:Nat}{q0:Q6}{m:List Tr}{p:Pl.PR}
  (h:LMid n w w2 b G L all r dp de g t q0 kids m vs p v dpk gk) (s:w3.ownsRow (G+1) TP 1 (.slice (some ⟨g',0,none⟩) (m.length+1) cap') (m.length+1) (vs++[v])) (F:(w2.alloc o).grownBy w3 kids.ownBlock) (R:kids.ownBlock=some g'\/g'=w2.heap.size+1) :
  w3.cell? ⟨G,3,none⟩=some kids/\w3.frozen? ⟨G,3,none⟩=false/\G6 n w (w3.setCell ⟨G,3,none⟩ (.slice (some ⟨g',0,none⟩) (m.length+1) cap')) b G L all r dp de g p.q (.slice (some ⟨g',0,none⟩) (m.length+1) cap') (m++[p.t]) (vs++[v]) (max dpk p.dp) (gk||p.gr):=by
 have H:G<w2.heap.size:=aB h.out;have Z:=h.bG;have aa:=h.FH;have A:=h.row.lt;have I:some G≠kids.ownBlock:=fun e=>by have:=(A G e.symm).1;omega
 have J:some b≠kids.ownBlock:=fun e=>by have:=(A b e.symm).1;omega
 have l:∀k,k<w2.heap.size->some k≠kids.ownBlock->w3.heap[k]?=w2.heap[k]? := fun k q B=>(F.block k r7 B).trans (k_ q);have d:w3.heap[G]?=some (.cells #[kLst,Q1 0,tI,kids] TD (0,0)):=(l G H I).trans h.out;generalize S:Value.slice (some ⟨g',0,none⟩) (m.length+1) cap'=a at *;have K:a.ownBlock=some g':=by rw [<- S];rfl
 have j:∀k,k≠G->(w3.setCell ⟨G,3,none⟩ a).heap[k]?=w3.heap[k]? := fun k q=>Below.heap_setCell _ _ _ _ q;have T:b<w2.heap.size:=aB h.rd;have Y:w2.heap.size<=w3.heap.size:=by have:=F.size;simp at this;omega
 have ab:G<g':=by have:=(s.lt g' K).1;omega
 have C:CU (fun k=>G<k/\kids.ownBlock≠some k) w2 (w3.setCell ⟨G,3,none⟩ a):=fun k M e c _ q=>by rw [j k x8,l k (aB q) (fun e=>c.2 e.symm)];exact q
 have z:∀(u:Value)(x:Tr),AJ (fun k=>G<k/\kids.ownBlock≠some k) n w2 u x->AJ (fun k=>G<k/\a.ownBlock≠some k) n (w3.setCell ⟨G,3,none⟩ a) u x:=by
  intro u x hr
  have Q:AJ (fun k=>(G<k/\kids.ownBlock≠some k)/\a.ownBlock≠some k) n w2 u x:=by
   refine AJ.mono (fun k q c=>⟨c,?_⟩) _ _ _ hr;rw [K];intro e;obtain rfl:=i_ e;rcases R with Q | Q
   ·exact c.2 Q
   ·omega
  have h2:=AJ.keep (C.mono (ok':=fun k=>(G<k/\kids.ownBlock≠some k)/\a.ownBlock≠some k) (fun k c=>c.1)) _ _ _ Q;exact AJ.mono (fun k _ c=>⟨c.1.1,c.2⟩) _ _ _ h2
 have D:(w3.setCell ⟨G,3,none⟩ a).ownsRow (G+1) TP 1 a (m.length+1) (vs++[v]):=ownsRow_setCell_below s (by show G<G+1;omega) _
 have N:DR (w3.setCell ⟨G,3,none⟩ a) L all:=by
  refine⟨h.BX.1,?_⟩;rcases h.BX.2 with hn | ⟨x,U,M,O,h0,f,P⟩
  ·exact .inl hn
  ·refine .inr ⟨x,U,M,O,h0,?_,P⟩;have V:x≠G:=by intro e;subst e;rw [h.out] at f;simp only [o_,Obj.cells.injEq] at f;have:=f.2.1;simp [TD] at this
   have W:some x≠kids.ownBlock:=by
    intro e;rcases h.row.2 with⟨O,_⟩ | ⟨y,_,_,O,_,hy,_⟩
    ·rw [O] at e;simp [Value.ownBlock] at e
    ·rw [O] at e;simp only [Value.ownBlock,o_] at e;subst e;rw [hy] at f;simp only [o_,Obj.cells.injEq] at f;have:=f.2.1;simp [TP] at this
   rw [j x V,l x (aB f) W];exact f
 refine⟨aA d 3,aF d 3,⟨h.LQ,by have:=h.len;simp;omega,h.lf,?_,N,?_,?_,?_,?_,h.FH,h.bG⟩⟩
 ·show(w3.setCell _ _).heap[b]?=_;rw [j b x8,l b T J];exact h.rd
 ·rw [aD d 3 a];rfl
 ·simpa using D
 ·intro i u x E f;by_cases hi:i<vs.length
  ·have X:=h.row.1;rw [List.getElem?_append_left hi] at E;rw [List.getElem?_append_left x8] at f;exact z u x (h.KG i u x E f)
  ·have X:=h.row.1;have e:i=vs.length:=by have:=(s_ E).1;simp at this;omega
   subst e;rw [List.getElem?_append_right n_] at E;rw [List.getElem?_append_right x8] at f;simp at E;have e2:vs.length-m.length=0:=by omega
   rw [e2] at f;simp at f;subst E f;exact z _ _ h.new
 ·refine⟨?_,?_,?_,?_,?_⟩
  ·exact F.os.trans h.grown.os
  ·exact F.tape.trans h.grown.tape
  ·exact F.output.trans h.grown.output
  ·have:=h.grown.size;rw [fR];omega
  ·intro k q B;have ac:=h.grown.size;rw [j k x8,l k x8 (fun e=>by have:=(A k e.symm).1;omega)];exact h.grown.block k q B
theorem G6.done{all:Q6}{dp:Nat}{l:List Tr}(h:G6 n w wr b G L all r dp de g q kids l vs dpk gk)(m:r.length<=1000)(x:Int) :AJ (fun k=>w.heap.size<=k) (n+1) (wr.setCell ⟨b,1,none⟩ (.int .i64 x)) (Q0 G) (.agg l):=by
 have p:∀o,CU o wr (wr.setCell ⟨b,1,none⟩ (.int .i64 x)):=fun o=>CU.DX (aE _ _ _ _) h.rd w8 w8;have d:=h.FH;refine AJ.keep (p _) _ _ _ ⟨G,rfl,d,kids,vs,h.out,?_,?_,?_,by have:=h.len;omega⟩
 ·intro r m;have:=(h.row.lt r m).1;omega
 ·exact⟨h.row.1,h.row.2.imp id (fun⟨g,e,f,a,b,c⟩=>⟨g,e,f,a,Nat.zero_le _,c⟩)⟩
 ·intro i u y s t;exact AJ.mono (fun k _ j=>by have:=j.1;omega) _ _ _ (h.KG i u y s t)
theorem Tryz.TZ:(prog.info? 85).map (fun i=>(i.zero,i.size,i.bytes))=some (some (.pointer none),1,8):=by kernel_rfl
theorem kH(n:Nat)(ih:NF n)(w:World)(b:Nat)(L:Value)(a:Q6)(r:Q6)(O C:Nat)(g:Bool)(hR:Rd w b L ((a.length-([40]::r).length:Nat):Int) (O:Int) g)(hT:DR w L a)(h:[40]::r <:+ a)(ah:([40]::r).length<=n+1)(T:a.length<=1000)(U:C+([40]::r).length<=2000)(be:C<=O)(z:∀t∈a,t.length<=1000) :Q2 24 #[Q0 b,Q1 C] w fun e w'=>IK (n+1) w b L a O C g ([40]::r) e w':=by
 obtain⟨i0,ai,aj,ak,al⟩:=info_parts Tryz.TZ;have V:=z;have HI:=h_ ih;clear ih;obtain⟨t,ht⟩:∃t:Q7,t=[40]:=⟨_,rfl⟩
 rw [<- ht] at hR h;obtain⟨ao,P,rfl,bd,D⟩:=dM hT;obtain⟨hi,hg⟩:=Pl.E9 h rfl;obtain⟨G,rfl,hc⟩:=D _ t (by rw [g_ hi,hg]);obtain⟨c0,c1,c2,c3⟩:=hR.cells;have f1:=aF hR 1;have f2:=aF hR 2;generalize c:a.length-(t::r).length=am at *;have HP:Hid (am+1=a.length-r.length):=by have:=iS h;rw [<- c];exact this
 have W:=h_ hR;have an:t.length<=1000:=z t (h.subset w9);have HT:=h_ hT;clear c hg hT D hR z;subst ht;have z:=V;clear V an;have ap:r.length<=1000:=by have:=h.length_le;simp at this;omega
 have bf:decide (a.length<=am)=false:=by simp;omega
 by_cases hd:O<C+1
 ·have bg:decide ((O:Int)<(C:Int)+1)=true:=by simp;omega
  go_enter func24,ntmps24
  go_wp2_with fail
  go_quiet (fail)
  go_wp2_with fail
  go_quiet (fail)
  go_wp2_with fail
  go_loopw [8] (fun _ wr=>∃q i Q X l R,Hid (G6 n w wr b w.heap.size (.slice (some ⟨G,0,none⟩) a.length P) a r O C g q i Q X l R)) (fun _ wr=>mOf a b wr)
  case atStart=>exact⟨_,_,_,_,_,_,G6.start ((List.suffix_cons _ _).trans h) ((((W.drewN _).KE _).WU _).cast (by have:=HP.out;omega) x8 rfl) (HT.keep (aC (cK w _ (some b)) (aC (aE _ _ _ _) (aE _ _ _ _))) W) (aC (cK w _ (some b)) (aC (aE _ _ _ _) (aE _ _ _ _))) (aB W) _ rfl _ w9⟩
  case round =>
   exact zC0
 ·go_enter func24,ntmps24
  go_wp2_with fail
  go_quiet (fail)
  go_wp2_with fail
  go_quiet (fail)
  go_wp2_with fail
  go_loopw [8] (fun _ wr=>∃q i Q X l R,Hid (G6 n w wr b w.heap.size (.slice (some ⟨G,0,none⟩) a.length P) a r O C g q i Q X l R)) (fun _ wr=>mOf a b wr)
  case atStart=>exact⟨_,_,_,_,_,_,G6.start ((List.suffix_cons _ _).trans h) (((W.drewN _).KE _).cast (by have:=HP.out;omega) x8 rfl) (HT.keep (aC (cK w _ (some b)) (aE _ _ _ _)) W) (aC (cK w _ (some b)) (aE _ _ _ _)) (aB W) _ rfl _ w9⟩
  case round =>
   exact zC0
theorem jA:∀n:Nat,NF n
 | 0=>by intro w b L d l i j g k m a q c e f h x s;obtain rfl:=e_ (Nat.le_zero.1 q);subst s;exact fV 0 w b L d i j g k m
 | n+1=>by
  intro w b L d l i j g k m a q c e f h x s;subst s
  cases l with
  | nil=>exact fV (n+1) w b L d i j g k m
  | cons t r =>
   by_cases o:t=[40]
   ·subst o;exact kH n (jA n) w b L d r i j g k m a q c e f h
   by_cases p:t=[39]
   ·subst p;exact i8 n (jA n) w b L d r i j g k m a q c e f h
   ·exact kI n w b L d t r i j g k m a c h f o p
theorem jP(k:Nat)(a:k<7)(t l:Q7)(b:Pl.RZ[k]'a=l)(h:(l==t)=true):true=EE t:=by
 have:l=t:=by simpa using h
 subst this;exact((Pl.IH _).2 (b▸List.getElem_mem _)).symm
theorem fK(k:Nat)(a:k<7)(t l:Q7)(b:Pl.RZ[k]'a=l)(c:t∉Pl.RZ.take k)(h:(l==t)=false):t∉Pl.RZ.take (k+1) :=Pl.WP Pl.RZ t k a c (by rw [b];simpa using h)
theorem aR(t:Q7)(w:World) :Q2 52 #[.string ⟨t.toArray⟩] w fun e b=>e=.returned (.bool (EE t))/\Q3 w b:=by
 go_enter func52,ntmps52
 go_wp2_with fail
 go_loopw [4] (fun i wr=>∃k:Nat,k<=7/\i=.int .i64 k/\wr=w.alloc (.cells #[.string ⟨#[113,117,111,116,101]⟩,.string ⟨#[105,102]⟩,.string ⟨#[108,97,109,98,100,97]⟩,.string ⟨#[115,101,116,33]⟩,.string ⟨#[100,101,102,105,110,101]⟩,.string ⟨#[98,101,103,105,110]⟩,.string ⟨#[108,101,116]⟩] 9)/\Hid (t∉Pl.RZ.take k)) (fun i _=>7-(intOf i).toNat)
 case atStart=>exact⟨0,Nat.zero_le _,rfl,rfl,zQ6⟩
 case round =>
  obtain⟨k,c,rfl,rfl,a⟩:=hrel;rcases(show k=0\/k=1\/k=2\/k=3\/k=4\/k=5\/k=6\/k=7 from by omega) with rfl | rfl | rfl | rfl | rfl | rfl | rfl | rfl
  ·go_wp2_with fail
   ·go_ret;exact⟨aP (jP 0 w8 t _ rfl d9),b_⟩
   ·exact⟨⟨0+1,x8,k7,trivial,fK 0 w8 t _ rfl a d9⟩,zL5⟩
  ·go_wp2_with fail
   ·go_ret;exact⟨aP (jP 1 w8 t _ rfl d9),b_⟩
   ·exact⟨⟨1+1,x8,k7,trivial,fK 1 w8 t _ rfl a d9⟩,zL5⟩
  ·go_wp2_with fail
   ·go_ret;exact⟨aP (jP 2 w8 t _ rfl d9),b_⟩
   ·exact⟨⟨2+1,x8,k7,trivial,fK 2 w8 t _ rfl a d9⟩,zL5⟩
  ·go_wp2_with fail
   ·go_ret;exact⟨aP (jP 3 w8 t _ rfl d9),b_⟩
   ·exact⟨⟨3+1,x8,k7,trivial,fK 3 w8 t _ rfl a d9⟩,zL5⟩
  ·go_wp2_with fail
   ·go_ret;exact⟨aP (jP 4 w8 t _ rfl d9),b_⟩
   ·exact⟨⟨4+1,x8,k7,trivial,fK 4 w8 t _ rfl a d9⟩,zL5⟩
  ·go_wp2_with fail
   ·go_ret;exact⟨aP (jP 5 w8 t _ rfl d9),b_⟩
   ·exact⟨⟨5+1,x8,k7,trivial,fK 5 w8 t _ rfl a d9⟩,zL5⟩
  ·go_wp2_with fail
   ·go_ret;exact⟨aP (jP 6 w8 t _ rfl d9),b_⟩
   ·exact⟨⟨6+1,x8,k7,trivial,fK 6 w8 t _ rfl a d9⟩,zL5⟩
  ·go_wp2_with fail
   go_ret;exact⟨aP (by have:=a.out;simp only [EE];symm;rw [decide_eq_false_iff_not];exact this),b_⟩
def gF:Tr->Value
 | .lit (.int _ _)=>PU
 | .lit (.bool _)=>PQ
 | .lit (.string _)=>kNam
 | _=>kLst
theorem AJ.open_{t:Tr}(h:AJ ok n w v t) :∃(b:Nat)(N:Int)(a:Value),v=(Q0 b)/\w.heap[b]?=some (.cells #[gF t,Q1 N,eB (Pl.strOf t),a] TD (0,0)):=by
 cases n with
 | zero=>exact h.elim
 | succ n =>
  obtain⟨b,c,_,h⟩:=h
  match t,h with
  | .lit (.int _ m),⟨k,d,_⟩=>exact⟨b,k,_,c,d⟩
  | .lit (.bool x),h=>exact⟨b,_,_,c,h⟩
  | .lit (.string s),h=>exact⟨b,_,_,c,h⟩
  | .agg e,⟨a,f,d,_⟩=>exact⟨b,_,a,c,d⟩
theorem pK(t:Tr)(h:AJ ok n w v t):(gF t=kNam/\isName t=!EE (Pl.strOf t))\/((gF t=PU\/gF t=PQ\/gF t=kLst)/\isName t=false):=by
 cases n with
 | zero=>exact h.elim
 | succ n =>
  obtain⟨b,a,_,h⟩:=h
  match t,h with
  | .lit (.int _ m),h=>exact .inr ⟨.inl rfl,rfl⟩
  | .lit (.bool x),h=>exact .inr ⟨.inr (.inl rfl),rfl⟩
  | .lit (.string s),h=>exact .inl ⟨rfl,rfl⟩
  | .agg c,h=>exact .inr ⟨.inr (.inr rfl),rfl⟩
theorem aV(ok:Q5)(n:Nat)(w:World)(v:Value)(t:Tr)(h:AJ ok n w v t) :Q2 51 #[v] w fun e i=>e=.returned (.bool (isName t))/\Q3 w i:=by
 have o:=pK t h;obtain⟨b,N,d,rfl,j⟩:=h.open_;clear h;have p:w.cell? ⟨b,2,none⟩=some (.string ⟨(Pl.strOf t).toArray⟩):=aA j 2;go_enter func51,ntmps51;go_wp2_with fail;refine(aR (Pl.strOf t) _).mono ?_;rintro e i ⟨rfl,m⟩;have f:i.heap[b]?=some (.cells #[gF t,Q1 N,eB (Pl.strOf t),d] TD (0,0)):=(m.block b (aB j)).trans j;have k:=h_ m;have g:i.cell? ⟨b,0,none⟩=some (gF t):=aA f 0;clear m f j p;rcases o with⟨a,c⟩ | ⟨a | a | a,c⟩<;>(rw [a] at g;have l:=(show Hid (isName t=_) from c))
 ·unfold kNam at g;exact zC1
 ·unfold PU at g;exact zC1
 ·unfold PQ at g;exact zC1
 ·unfold kLst at g;exact zC1
def TF:TypeId:=38
theorem Tryz.TY:(prog.info? 38).map (fun i=>(i.zero,i.size,i.bytes))=some (some (.pointer none),1,8):=by kernel_rfl
def DB(w:World)(v:Value)(vs:List Value):Prop :=∃ao cap,v=.slice ao vs.length cap/\vs.length<=cap/\∀(i:Nat)(u:Value),vs[i]?=some u->∃g off,ao=some ⟨g,off,none⟩/\g<w.heap.size/\w.cell? ⟨g,off+i,none⟩=some u
theorem bC{e:TypeId}(h:w.ownsRow base e 1 v n vs):DB w v vs:=by
 have k:=h.1;rcases h.2 with⟨a,d⟩ | ⟨g,b,f,a,_,j,l,_,_,m⟩
 ·subst d;have:vs=[]:=e_ x8;subst this;exact⟨none,0,a,n_,fun i u c=>by simp at c⟩
 ·have e:vs.length=n:=by omega
  refine⟨some ⟨g,0,none⟩,b,by rw [e];exact a,x8,fun i u c=>⟨g,0,rfl,aB j,?_⟩⟩;have:=h.cells (g:=g) (by rw [a];rfl) i u c
  rwa [Addr.add_lit] at this
def QE(n:Nat)(w:World)(vs:List Value)(ts:List Tr):Prop:=vs.length=ts.length/\∃ok,∀(i:Nat)(u:Value)(x:Tr),vs[i]?=some u->ts[i]?=some x->AJ ok n w u x
theorem eA{f:Tr->Bool}{a:List Tr}{x:Tr}(h:(a.take k).all f=true)(b:a[k]?=some x)(c:f x=true):(a.take (k+1)).all f=true:=by rw [List.take_add_one,b,List.all_append,h];simp [c]
theorem gJ{f:Tr->Bool}{a:List Tr}{x:Tr}(b:a[k]?=some x)(c:f x=false):a.all f=false:=by rw [List.all_eq_false];exact⟨x,q_ b,by simp [c]⟩
theorem bP{W:World}(a:Q3 W w1):(∀b o,b<W.heap.size->w1.cell? ⟨b,o,none⟩=W.cell? ⟨b,o,none⟩)/\(∀b o,b<W.heap.size->w1.frozen? ⟨b,o,none⟩=W.frozen? ⟨b,o,none⟩) :=⟨fun b o h=>a.cell (p:=⟨b,o,none⟩) h,fun b o h=>a.frozen (p:=⟨b,o,none⟩) h⟩
def PT:TypeId:=160
def PR:TypeId:=191
def PK:TypeId:=231
def AN(ok:Q5):Nat->World->Value->Tr->Prop
 | 0,_,_,_=>False
 | n+1,w,v,t =>
  match t with
  | .lit (.int _ m)=>∃k:Int,v=.iface 236 (.int .i64 k)/\(gW m->k=m)
  | .lit (.bool x)=>v=.iface 238 (.bool x)
  | .lit (.string s)=>v=.iface 168 (.string ⟨s.toArray⟩)
  | .agg ts=>∃sl vs,v=.iface 166 sl/\(∀r,sl.ownBlock=some r->ok r)/\w.ownsRow 0 PT 1 sl ts.length vs /\
    (∀(i:Nat)(u:Value)(x:Tr),vs[i]?=some u->ts[i]?=some x->AN ok n w u x)/\ts.length<=1000
  | _=>False
def GA(ok:Q5)(w w':World):Prop:=∀(k:Nat)(cur:Array Value),ok k->w.heap[k]?=some (.cells cur PT (0,0))->w'.heap[k]?=some (.cells cur PT (0,0))
theorem GA.AA(h:Q3 w w'):GA ok w w':=fun k _ _ a=>(h.block k (aB a)).trans a
theorem GA.DX{c:Array Value}{T:TypeId}{f:Nat×Nat}(e:w.grownBy w' (some b))(g:w.heap[b]?=some (.cells c T f))(h:T≠PT):GA ok w w':=by
 intro k i _ a;have d:some k≠some b:=by intro j;obtain rfl:=i_ j;rw [g] at a;simp only [o_,Obj.cells.injEq] at a;exact h a.2.1
 exact(e.block k (aB a) d).trans a
theorem sQ{xs:List Value}(d:GA ok w w')(e:∀r,v.ownBlock=some r->ok r)(h:w.ownsRow base PT 1 v n xs):w'.ownsRow base PT 1 v n xs:=by
 refine⟨h.1,?_⟩;rcases h.2 with f | ⟨g,c,a,rfl,i,j,b⟩
 ·exact .inl f
 ·exact .inr ⟨g,c,a,rfl,i,d g a (e g rfl) j,b⟩
theorem AN.keep(a:GA ok w w'):∀(n:Nat)(v:Value)(t:Tr),AN ok n w v t->AN ok n w' v t
 | 0,_,_,h=>h
 | n+1,v,t,h=>by
  match t,h with
  | .lit (.int _ m),h=>exact h
  | .lit (.bool x),h=>exact h
  | .lit (.string s),h=>exact h
  | .agg o,⟨c,d,e,b,f,g,j⟩=>exact⟨c,d,e,b,sQ a b f,fun i u x k l=>AN.keep a n u x (g i u x k l),j⟩
theorem AN.mono{ok':Q5}(hi:∀k,k<w.heap.size->ok k->ok' k):∀(n:Nat)(v:Value)(t:Tr),AN ok n w v t->AN ok' n w v t
 | 0,_,_,h=>h
 | n+1,v,t,h=>by
  match t,h with
  | .lit (.int _ m),h=>exact h
  | .lit (.bool x),h=>exact h
  | .lit (.string s),h=>exact h
  | .agg p,⟨c,d,e,f,a,g,j⟩=>exact⟨c,d,e,fun r b=>hi r (a.lt r b).2 (f r b),a,fun i u x l o=>AN.mono hi n u x (g i u x l o),j⟩
theorem AN.up:∀(n m:Nat)(v:Value)(t:Tr),n<=m->AN ok n w v t->AN ok m w v t
 | 0,_,_,_,_,h=>h.elim
 | n+1,0,_,_,a,_=>by omega
 | n+1,m+1,v,t,a,h=>by
  match t,h with
  | .lit (.int _ m),h=>exact h
  | .lit (.bool x),h=>exact h
  | .lit (.string s),h=>exact h
  | .agg o,⟨b,c,d,e,f,g,j⟩=>exact⟨b,c,d,e,f,fun i u x k l=>AN.up n m u x x8 (g i u x k l),j⟩
theorem AN.later{t:Tr}(h:AN ok n w v t)(a:Q3 w w'):AN ok n w' v t:=AN.keep (GA.AA a) _ _ _ h
theorem AN.iface{t:Tr}(h:AN ok n w v t):∃T x,v=.iface T x/\v.oneCell'=true:=by
 cases n with
 | zero=>exact h.elim
 | succ n =>
  match t,h with
  | .lit (.int _ m),⟨k,h,_⟩=>subst h;exact⟨_,_,rfl,rfl⟩
  | .lit (.bool x),h=>have h:v=_:=h;subst h;exact⟨_,_,rfl,rfl⟩
  | .lit (.string s),h=>have h:v=_:=h;subst h;exact⟨_,_,rfl,rfl⟩
  | .agg a,⟨b,c,h,_⟩=>subst h;exact⟨_,_,rfl,rfl⟩
def EW(w:World)(b:Nat)(rest:Value)(dep dpst:Int)(g:Bool):Prop:=w.heap[b]?=some (.cells #[rest,Q1 dep,Q1 dpst,.bool g] PR (0,0))
theorem EW.cells(h:EW w b L at_ dp g) :w.cell? ⟨b,0,none⟩=some L/\w.cell? ⟨b,1,none⟩=some (Q1 at_)/\w.cell? ⟨b,2,none⟩=some (Q1 dp)/\w.cell? ⟨b,3,none⟩=some (.bool g) :=⟨aA h 0,aA h 1,aA h 2,aA h 3⟩
theorem EW.IM(h:EW w b L at_ dp g)(x:Value):EW (w.setCell ⟨b,0,none⟩ x) b x at_ dp g:=aD h 0 _
theorem EW.KE(h:EW w b L at_ dp g)(x:Int):EW (w.setCell ⟨b,1,none⟩ (.int .i64 x)) b L x dp g:=aD h 1 _
theorem EW.WU(h:EW w b L at_ dp g)(x:Int):EW (w.setCell ⟨b,2,none⟩ (.int .i64 x)) b L at_ x g:=aD h 2 _
theorem EW.FA(h:EW w b L at_ dp g)(x:Bool):EW (w.setCell ⟨b,3,none⟩ (.bool x)) b L at_ dp x:=aD h 3 _
theorem EW.alloc(h:EW w b L at_ dp g)(o:Obj):EW (w.alloc o) b L at_ dp g:=(Below.heap_alloc w o b (aB h)).trans h
theorem EW.below(h:EW w b L at_ dp g)(a:Q3 w w'):EW w' b L at_ dp g:=(a.block b (aB h)).trans h
theorem EW.cast{at2 dp2:Int}{g2:Bool}(h:EW w b L at_ dp g)(a:at_=at2)(c:dp=dp2)(d:g=g2):EW w b L at2 dp2 g2:=by subst a c d;exact h
def DG(w:World)(v:Value)(l:Q6):Prop :=∃ao cap,v=.slice ao l.length cap/\l.length<=cap/\∀(i:Nat)(t:Q7),l[i]?=some t->∃g off cur,ao=some ⟨g,off,none⟩/\w.heap[g]?=some (.cells cur PK (0,0))/\cur[off+2*i]?=some (Q1 (cE t))/\cur[off+2*i+1]?=some (.string ⟨t.toArray⟩)
theorem DG.keep(h:DG w v l)(d:∀(k:Nat)(a:Array Value),w.heap[k]?=some (.cells a PK (0,0))->w'.heap[k]?=some (.cells a PK (0,0))):DG w' v l:=by obtain⟨f,b,e,j,m⟩:=h;refine⟨f,b,e,j,fun i t n=>?_⟩;obtain⟨g,c,a,o,p,r⟩:=m i t n;exact⟨g,c,a,o,d g a p,r⟩
theorem DG.grown{c:Array Value}{f:Nat×Nat}(h:DG w v l)(e:w.grownBy w' (some b))(g:w.heap[b]?=some (.cells c PR f)):DG w' v l:=by
 refine h.keep fun k i a=>?_;have d:some k≠some b:=by intro j;obtain rfl:=i_ j;rw [g] at a;simp only [o_,Obj.cells.injEq] at a;have:=a.2.1;simp [PR,PK] at this
 exact(e.block k (aB a) d).trans a
theorem DG.below(h:DG w v l)(b:Q3 w w'):DG w' v l:=h.keep fun k _ a=>(b.block k (aB a)).trans a
theorem DG.cons(h:DG w v (t::q)):∃g a b,v=.slice (some ⟨g,a,none⟩) (q.length+1) b/\q.length+1<=b/\g<w.heap.size/\w.cell? ⟨g,a,none⟩=some (Q1 (cE t))/\w.cell? ⟨g,a+1,none⟩=some (.string ⟨t.toArray⟩) /\
  ∀(f:Option Addr)(c:Nat),q.length<=c->(q.length≠0->f=some ⟨g,a+2,none⟩)->DG w (.slice f q.length c) q:=by
 obtain⟨f,b,e,y,p⟩:=h;obtain⟨g,a,z,A,j,B,C⟩:=p 0 t rfl;subst A;refine⟨g,a,b,e,y,aB j,(aA j _).trans (by simpa using B),(aA j _).trans zO4,fun k D l E=>⟨k,D,rfl,l,fun i x r=>?_⟩⟩;obtain⟨G,s,d,u,m,n,o⟩:=p (i+1) x (by simpa using r);simp only [o_,Addr.mk.injEq,and_true] at u;obtain⟨rfl,rfl⟩:=u;refine⟨g,a+2,d,E (by rintro F;have:=e_ F;subst this;simp at r),m,?_,?_⟩
 ·rw [show a+2+2*i=a+2*(i+1) from by omega];exact n
 ·rw [show a+2+2*i+1=a+2*(i+1)+1 from by omega];exact o
theorem tY(l:Q6):∀(i:Nat)(t:Q7),l[i]?=some t->(gO l)[2*i]?=some (Q1 (cE t))/\(gO l)[2*i+1]?=some (eB t):=by
 induction l with
 | nil=>intro i t h;simp at h
 | cons x r a =>
  intro i t h;have e:gO (x::r)=.int .i64 (cE x)::eB x::gO r:=rfl
  cases i with
  | zero=>simp at h;subst h;rw [e];simp
  | succ i =>simp at h;have:=a i t h;rw [e,show 2*(i+1)=2*i+1+1 from by omega];simpa using this
theorem DG.of_own(h:w.ownsRow base PK 2 v l.length (gO l)):DG w v l:=by
 rcases h.2 with⟨d,m⟩ | ⟨g,e,a,d,_,n,o,_,_,p⟩
 ·have:l=[]:=e_ m;subst this;exact⟨none,0,d,n_,fun i t f=>by simp at f⟩
 ·refine⟨some ⟨g,0,none⟩,e,d,o,fun i t f=>⟨g,0,a,rfl,n,?_⟩⟩;have k:=tY l i t f
  have b:∀(j:Nat)(u:Value),(gO l)[j]?=some u->a[j]?=some u:=by
   intro j u c;rw [<- p,List.getElem?_take] at c;split at c
   ·simpa using c
   ·cases c
  rw [Nat.zero_add];exact⟨b _ _ k.1,b _ _ k.2⟩
theorem pP{b:World}{row:Option Nat}(h:a.grownBy b row):a.grownBy b.drew row:=⟨h.os,h.tape,h.output,h.size,h.block⟩
theorem u7(w:World)(b:Nat)(rest:Value)(a c:Nat)(g:Bool)(h:EW w b rest a c g)(i:a<=2000) :Q2 135 #[Q0 b] w fun e d=>e=.returned (.tuple #[])/\w.grownBy d (some b)/\EW d b rest ((a+1:Nat):Int) ((max c (a+1):Nat):Int) g:=by
 obtain⟨j,k,l,m⟩:=h.cells;have n:=aF h 1;have o:=aF h 2;have f:=h_ h;clear h;go_enter func135,ntmps135;go_wp2_with fail
 go_region
 go_end0
 refine⟨rfl,pP (aC (aE _ _ _ _) (aE _ _ _ _)),?_⟩;exact EW.cast (((f.KE _).WU _)) x8 (by first | (split<;>omega) | omega | (push_cast;omega)) rfl
theorem oW(w:World)(b:Nat)(rest:Value)(a c:Int)(g:Bool)(h:EW w b rest a c g)(f:0<=a/\a<=3000) :Q2 137 #[Q0 b] w fun e d=>e=.returned (.tuple #[])/\w.grownBy d (some b)/\EW d b rest (a-1) c g:=by
 obtain⟨l,m,n,o⟩:=h.cells;obtain⟨i,j⟩:=f;have p:=aF h 1;have k:=h_ h;clear h;go_enter func137,ntmps137;go_wp2_with fail
 go_end0
 exact⟨rfl,aE _ _ _ _,k.KE _⟩
theorem yY(w:World)(b:Nat)(rest:Value)(c a:Int)(g:Bool)(l:Q6)(h:EW w b rest c a g)(f:DG w rest l) :Q2 136 #[Q0 b] w fun e j=>e=.returned (.bool (l.head?.any fun t=>cE t==1))/\w=j:=by
 obtain⟨k,n,o,p⟩:=h.cells;clear h
 cases l with
 | nil =>obtain⟨r,d,rfl,_⟩:=f;simp only [z_] at k;go_enter func136,ntmps136;go_wp2_with fail;go_ret;exact⟨rfl,rfl⟩
 | cons t q =>
  obtain⟨s,m,d,rfl,i,u,v,x,_⟩:=f.cons;have y:(0:Int)<(q.length:Int)+1:=by omega
  go_enter func136,ntmps136
  go_wp2_with fail
  go_ret;exact⟨rfl,rfl⟩
theorem AJ.list{d:List Tr}(h:AJ ok (n+1) w v (.agg d)) :∃b a c,v=(Q0 b)/\b<w.heap.size/\w.cell? ⟨b,0,none⟩=some kLst/\w.cell? ⟨b,3,none⟩=some a/\DB w a c/\c.length=d.length/\∀(i:Nat)(u:Value)(x:Tr),c[i]?=some u->d[i]?=some x->AJ ok n w u x:=by obtain⟨b,g,_,a,c,e,_,f,j,_⟩:=h;refine⟨b,a,c,g,aB e,aA e 0,aA e 3,bC f,by have:=f.1;omega,j⟩
theorem AJ.short{a:List Tr}(h:AJ ok n w v (.agg a)):a.length<=1000:=by
 cases n with
 | zero=>exact h.elim
 | succ n=>obtain⟨_,_,_,_,_,_,_,_,_,b⟩:=h;exact b
theorem DB.cell0{us:List Value}(h:DB w v (u::us)):∃g a b,v=.slice (some ⟨g,a,none⟩) (us.length+1) b/\us.length+1<=b/\g<w.heap.size/\w.cell? ⟨g,a,none⟩=some u/\∀(i:Nat)(x:Value),us[i]?=some x->w.cell? ⟨g,a+(i+1),none⟩=some x:=by obtain⟨n,b,rfl,c,d⟩:=h;obtain⟨g,a,rfl,j,k⟩:=d 0 u rfl;refine⟨g,a,b,rfl,zP8,j,by simpa using k,fun i x l=>?_⟩;obtain⟨o,f,e,_,m⟩:=d (i+1) x zQ9;simp only [o_,Addr.mk.injEq,and_true] at e;obtain⟨rfl,rfl⟩:=e;exact m
theorem AJ.EB{t:Tr}(h:AJ ok n w v t):∃b,v=(Q0 b)/\b<w.heap.size/\w.cell? ⟨b,0,none⟩=some (gF t)/\w.cell? ⟨b,2,none⟩=some (.string ⟨(Pl.strOf t).toArray⟩):=by obtain⟨b,N,c,d,a⟩:=h.open_;exact⟨b,d,aB a,aA a 0,aA a 2⟩
theorem AJ.later{t:Tr}(h:AJ ok n w v t)(a:Q3 w w'):AJ ok n w' v t:=AJ.keep (CU.AA a) _ _ _ h
theorem U3{W:World}(c:Q3 W w1):∀(a:Obj) b o,b<W.heap.size->(w1.alloc a).cell? ⟨b,o,none⟩=W.cell? ⟨b,o,none⟩ :=fun a b o h=>(c.alloc c.size a).cell (p:=⟨b,o,none⟩) h
theorem kY{b:World}{B:Nat}(h:Below B a b):Below B a b.drew:=h.drew
theorem mR(h:w.ownsRow base 9 1 v k (nm.map eB)) :∃d a,v=.slice d k a/\k<=a/\∀(i:Nat)(t:Q7),nm[i]?=some t->∃g,d=some ⟨g,0,none⟩/\w.cell? ⟨g,i,none⟩=some (.string ⟨t.toArray⟩):=by
 have e:=h.1;rw [List.length_map] at e;rcases h.2 with⟨b,f⟩ | ⟨g,a,j,b,_,n,l,_,_,o⟩
 ·subst f;have:nm=[]:=e_ x8;subst this;exact⟨none,0,b,n_,fun i t c=>by simp at c⟩
 ·refine⟨some ⟨g,0,none⟩,a,b,l,fun i t c=>⟨g,rfl,?_⟩⟩;have m:(nm.map eB)[i]?=some (eB t):=by rw [List.getElem?_map,c];rfl
  have:=h.cells (g:=g) zN5 i (eB t) m
  rwa [show(⟨g,0,none⟩:Addr).add i=⟨g,i,none⟩ from by rw [Addr.add_lit,Nat.zero_add]] at this
def Seen(ts:List Tr)(k:Nat)(nm:Q6):Prop:=nm=(ts.take k).map Pl.strOf/\(ts.take k).all isName=true/\nm.Nodup
theorem Seen.start(a:List Tr):Seen a 0 []:=⟨w9,w9,List.nodup_nil⟩
theorem Seen.more{c:List Tr}{x:Tr}(h:Seen c k nm)(d:c[k]?=some x)(g:isName x=true)(i:Pl.strOf x∉nm):Seen c (k+1) (nm++[Pl.strOf x]):=by
 refine⟨?_,eA h.2.1 d g,?_⟩
 ·rw [List.take_add_one,d,h.1];simp
 ·rw [List.nodup_append];refine⟨h.2.2,w9,?_⟩;intro a j b f e;simp only [List.mem_singleton] at f;subst f e;exact i j
theorem Seen.done{a:List Tr}(h:Seen a k nm)(d:a.length<=k):Pl.CJ a=true:=by obtain⟨b,c,e⟩:=h;rw [List.take_of_length_le d] at b c;unfold Pl.CJ;rw [c,<-b];simpa using e
theorem Seen.bad{a:List Tr}{x:Tr}(b:a[k]?=some x)(c:isName x=false):Pl.CJ a=false:=by unfold Pl.CJ;rw [gJ b c];rfl
theorem Seen.ZY{a:List Tr}{x:Tr}(h:Seen a k nm)(g:a[k]?=some x){j:Nat}(b:nm[j]?=some t)(i:t=Pl.strOf x):Pl.CJ a=false:=by
 have c:j<k:=by have:=(s_ b).1;rw [h.1,List.length_map,List.length_take] at this;omega
 have d:¬(a.map Pl.strOf).Nodup:=by
  intro d;have f:(a.map Pl.strOf)[j]?=some t:=by rw [h.1,List.getElem?_map,List.getElem?_take] at b;rw [List.getElem?_map];simpa [c] using b
  have l:(a.map Pl.strOf)[k]?=some t:=by rw [List.getElem?_map,g,i];rfl
  have e:=(s_ f).1;have:=(List.getElem?_inj e d).1 (f.trans l.symm);omega
 unfold Pl.CJ;rw [Bool.and_eq_false_iff];right;simpa using d
theorem vO(h:∀(j:Nat)(x:Q7),nm[j]?=some x->¬x=t):t∉nm:=by intro a;obtain⟨j,b⟩:=List.mem_iff_getElem?.1 a;exact h j t b rfl
structure D7(w wr:World)(G a b:Nat)(kn vv:Value)(nvs vvs:List Value):Prop where
 below:Q3 w wr
 out:wr.heap[G]?=some (.cells #[kLst,Q1 0,tI,kn] TD (0,0))
 G0:wr.ownsRow (G+1) TP 1 kn a nvs
 I6:wr.ownsRow (G+1) TP 1 vv b vvs
 apart:∀r,kn.ownBlock=some r->vv.ownBlock≠some r
 FH:w.heap.size<=G
theorem D7.start(o:Obj)(a:o=.cells #[kLst,Q1 0,tI,.slice none 0 0] TD (0,0)):D7 w (w.alloc o) w.heap.size 0 0 (.slice none 0 0) (.slice none 0 0) [] [] where
 below:=r_.alloc n_ o
 out:=by rw [heap_new_of rfl,a]
 G0:=World.ownsRow_nil _ _ _ _
 I6:=World.ownsRow_nil _ _ _ _
 apart:=fun r h=>by simp [Value.ownBlock] at h
 FH:=n_
theorem l9{b:World}{row:Option Nat}(h:a.drew.grownBy b row):a.grownBy b row:=⟨h.os,h.tape,h.output,h.size,h.block⟩
theorem D7.LE{a:Nat}(h:D7 w wr G a b kn vv nvs vvs)
  (d:w3.ownsRow (G+1) TP 1 (.slice (some ⟨g',0,none⟩) (a+1) cap') (a+1) (nvs++[u])) (y:(wr.alloc o).grownBy w3 kn.ownBlock) (p:kn.ownBlock=some g'\/g'=wr.heap.size+1) :
  D7 w (w3.setCell ⟨G,3,none⟩ (.slice (some ⟨g',0,none⟩) (a+1) cap')) G (a+1) b (.slice (some ⟨g',0,none⟩) (a+1) cap') vv (nvs++[u]) vvs:=by
 have f:G<wr.heap.size:=aB h.out;have g:=h.FH;have i:=h.G0.lt;have j:some G≠kn.ownBlock:=fun e=>by have:=(i G e.symm).1;omega
 have l:∀k,k<wr.heap.size->some k≠kn.ownBlock->w3.heap[k]?=wr.heap[k]? := fun k m q=>(y.block k r7 q).trans (k_ m);have c:w3.heap[G]?=some (.cells #[kLst,Q1 0,tI,kn] TD (0,0)):=(l G f j).trans h.out;have z:∀(v:Value) k,k≠G->(w3.setCell ⟨G,3,none⟩ v).heap[k]?=w3.heap[k]? := fun v k m=>Below.heap_setCell _ _ _ _ m;refine⟨?_,?_,ownsRow_setCell_below d (by show G<G+1;omega) _,?_,?_,g⟩
 ·refine(((h.below.alloc h.below.size o).grown y ?_ ?_).setCell ?_ _)
  ·have:=h.below.size;simp;omega
  ·intro k m;have:=(i k m).1;omega
  ·exact g
 ·rw [aD c 3 _];rfl
 ·refine ownsRow_setCell_below ?_ (by show G<G+1;omega) _;refine⟨h.I6.1,?_⟩;rcases h.I6.2 with E | ⟨x,s,t,A,F,B,n⟩
  ·exact .inl E
  ·refine .inr ⟨x,s,t,A,F,?_,n⟩;rw [l x (aB B) (fun e=>h.apart x e.symm (by rw [A];rfl))];exact B
 ·intro r C;simp only [Value.ownBlock,o_] at C;subst C;rcases p with D | D
  ·exact h.apart _ D
  ·intro e;have:=(h.I6.lt _ e).2;omega
theorem D7.KK{a:Nat}(h:D7 w wr G a b kn vv nvs vvs)
  (c:w3.ownsRow (G+1) TP 1 (.slice (some ⟨g',0,none⟩) (b+1) cap') (b+1) (vvs++[u])) (s:(wr.alloc o).grownBy w3 vv.ownBlock) (j:vv.ownBlock=some g'\/g'=wr.heap.size+1) :
  D7 w w3 G a (b+1) kn (.slice (some ⟨g',0,none⟩) (b+1) cap') nvs (vvs++[u]):=by
 have d:G<wr.heap.size:=aB h.out;have l:=h.FH;have f:=h.I6.lt;have g:∀k,k<wr.heap.size->some k≠vv.ownBlock->w3.heap[k]?=wr.heap[k]? := fun k m n=>(s.block k r7 n).trans (k_ m);refine⟨?_,?_,?_,c,?_,l⟩
 ·refine(h.below.alloc h.below.size o).grown s ?_ ?_
  ·have:=h.below.size;simp;omega
  ·intro k m;have:=(f k m).1;omega
 ·exact(g G d (fun e=>by have:=(f G e.symm).1;omega)).trans h.out
 ·refine⟨h.G0.1,?_⟩;rcases h.G0.2 with A | ⟨x,p,q,t,B,v,i⟩
  ·exact .inl A
  ·refine .inr ⟨x,p,q,t,B,?_,i⟩;rw [g x (aB v) (fun e=>h.apart x (by rw [t];rfl) e.symm)];exact v
 ·intro r y e;simp only [Value.ownBlock,o_] at e;subst e;rcases j with z | z
  ·exact h.apart _ y z
  ·have:=(h.G0.lt _ y).2;omega
def MJ(ok:Q5)(m:Nat)(w:World)(vs:List Value)(xs:List Tr):Prop:=vs.length=xs.length/\∀(i:Nat)(u:Value)(x:Tr),vs[i]?=some u->xs[i]?=some x->AJ ok m w u x
theorem MJ.nil(ok:Q5)(m:Nat)(w:World):MJ ok m w [] []:=⟨rfl,fun i u x a=>by simp at a⟩
theorem MJ.snoc{m:Nat}{c:List Tr}{x:Tr}(h:MJ ok m w vs c)(d:AJ ok m w u x):MJ ok m w (vs++[u]) (c++[x]):=by
 refine⟨by simp [h.1],fun i f g a b=>?_⟩;have l:=h.1;by_cases j:i<vs.length
 ·rw [List.getElem?_append_left j] at a;rw [List.getElem?_append_left x8] at b;exact h.2 i f g a b
 ·have e:i=vs.length:=by
   have:=(s_ a).1;simp at this;omega
  subst e;rw [List.getElem?_append_right n_] at a;rw [List.getElem?_append_right x8] at b;have k:vs.length-c.length=0:=by omega
  rw [k] at b;simp at a b;subst a b;exact d
theorem MJ.later{m:Nat}{a:List Tr}(h:MJ ok m w vs a)(b:Q3 w w'):MJ ok m w' vs a:=⟨h.1,fun i u x c d=>(h.2 i u x c d).later b⟩
theorem MJ.all{m:Nat}{a:List Tr}(h:MJ ok m w vs a)(b:m<=n):QE n w vs a:=⟨h.1,ok,fun i u x c d=>AJ.up m n u x b (h.2 i u x c d)⟩
theorem D7.names{a:Nat}(h:D7 w wr G a b kn vv nvs vvs){m:Nat}{d:List Tr}(j:MJ ok m w nvs d)(k:d.length=a)(l:d.length<=1000):AJ (fun _=>True) (m+1) wr (Q0 G) (.agg d):=by
 refine⟨G,rfl,trivial,kn,nvs,h.out,fun _ _=>trivial,?_,?_,l⟩
 ·rw [k];exact⟨h.G0.1,h.G0.2.imp id (fun⟨g,e,f,a,b,c⟩=>⟨g,e,f,a,Nat.zero_le _,c⟩)⟩
 ·intro i u x n o;exact AJ.mono (fun _ _ _=>trivial) _ _ _ ((j.2 i u x n o).later h.below)
theorem AJ.KQ{t:Tr}(h:AJ ok n w v t)(a:¬∃b,t=.agg b):∃c:Q7,gF t=.string ⟨c.toArray⟩/\(c==[108,105,115,116])=false:=by
 cases n with
 | zero=>exact h.elim
 | succ m =>
  obtain⟨_,_,_,d⟩:=h
  match t,d with
  | .lit (.int _ _),_=>exact⟨[110,117,109,98,101,114],rfl,w8⟩
  | .lit (.bool _),_=>exact⟨[116,114,117,116,104],rfl,w8⟩
  | .lit (.string _),_=>exact⟨[110,97,109,101],rfl,w8⟩
  | .agg b,_=>exact absurd ⟨b,rfl⟩ a
theorem c8{α:Type}(f:Tr->α){a:List Tr}{x:Tr}(b:a[k]?=some x):(a.take (k+1)).map f=(a.take k).map f++[f x]:=by rw [List.take_add_one,b];simp
theorem lZ(w:World)(e:TypeId)(u:Value):(w.alloc (.cells #[u] e)).ownsRow w.heap.size e 1 (.slice (some ⟨w.heap.size,0,none⟩) 1 1) 1 [u] :=⟨rfl,.inr ⟨w.heap.size,1,#[u],rfl,n_,heap_alloc_new _ _,n_,o6,rfl,rfl⟩⟩
theorem DB.tail{g off cap L:Nat}{us:List Value}(h:DB w (.slice (some ⟨g,off,none⟩) L cap) (u::us))(m:Nat)(j:us.length=m)(a:Option Addr)(c:Nat)(k:m<=c)(l:m≠0->a=some ⟨g,off+1,none⟩):DB w (.slice a m c) us:=by
 obtain⟨q,b,d,e,_,n,_,o⟩:=h.cell0;simp only [Value.slice.injEq,o_,Addr.mk.injEq,and_true] at e;obtain⟨⟨rfl,rfl⟩,_,rfl⟩:=e;subst j;refine⟨a,c,rfl,k,fun i x f=>⟨g,off+1,l (by rintro p;have:=e_ p;subst this;simp at f),n,?_⟩⟩;have:=o i x f
 rwa [show off+1+i=off+(i+1) from by omega]
theorem AJ.kinds{t:Tr}(h:AJ ok n w v t):(∃k m,t=.lit (.int k m))\/(∃x,t=.lit (.bool x))\/(∃s,t=.lit (.string s))\/∃a,t=.agg a:=by
 cases n with
 | zero=>exact h.elim
 | succ n =>
  obtain⟨_,_,_,b⟩:=h
  match t,b with
  | .lit (.int k m),_=>exact .inl ⟨k,m,rfl⟩
  | .lit (.bool x),_=>exact .inr (.inl ⟨x,rfl⟩)
  | .lit (.string s),_=>exact .inr (.inr (.inl ⟨s,rfl⟩))
  | .agg a,_=>exact .inr (.inr (.inr ⟨a,rfl⟩))
theorem AJ.cons{k:Tr}{r:List Tr}(h:AJ ok (n+1) w v (.agg (k::r))) :∃b g a c e f,v=(Q0 b)/\b<w.heap.size/\w.cell? ⟨b,0,none⟩=some (.string ⟨#[108,105,115,116]⟩)/\w.cell? ⟨b,3,none⟩=some (.slice (some ⟨g,a,none⟩) (r.length+1) c)/\r.length+1<=c/\g<w.heap.size/\w.cell? ⟨g,a,none⟩=some e /\
   DB w (.slice (some ⟨g,a,none⟩) (r.length+1) c) (e::f)/\f.length=r.length/\AJ ok n w e k/\QE n w (e::f) (k::r)/\QE n w f r:=by
 obtain⟨b,p,s,rfl,t,y,q,m,l,o⟩:=h.list
 match s,l with
 | e::f,l =>
  obtain⟨g,a,c,rfl,d,z,A,_⟩:=m.cell0;have j:f.length=r.length:=by simpa using l
  rw [j] at m q d;exact⟨b,g,a,c,e,f,rfl,t,y,q,d,z,A,m,j,o 0 e k rfl rfl,⟨l,ok,o⟩,⟨j,ok,fun i u x B C=>o (i+1) u x (by simpa using B) zO4⟩⟩
theorem DB.later(h:DB w v vs)(d:Q3 w w'):DB w' v vs:=by obtain⟨j,c,e,k,l⟩:=h;refine⟨j,c,e,k,fun i u m=>?_⟩;obtain⟨g,b,n,f,a⟩:=l i u m;exact⟨g,b,n,l_ f d.size,(d.cell (p:=⟨g,b+i,none⟩) f).trans a⟩
theorem QE.later{b:List Tr}(h:QE n w vs b)(c:Q3 w w'):QE n w' vs b:=by obtain⟨d,e,f⟩:=h;exact⟨d,e,fun i u x g a=>(f i u x g a).later c⟩
theorem pO{k:Tr}{r:List Tr}{h:Q7}(a:Pl.BJ (k::r)=some h):k=.lit (.string h)/\EE h=true:=by
 unfold Pl.BJ at a;split at a
 ·split at a
  ·rename_i c e b;simp only [List.cons.injEq] at e;simp only [o_] at a;subst a;exact⟨e.1,b⟩
  ·simp at a
 ·simp at a
theorem iB{b:World}{B:Nat}(c:B=a.heap.size)(h:(a.alloc o).grownBy b (some B)):Q3 a b:=by subst c;refine⟨h.os,h.tape,h.output,by have:=h.size;simp at this;omega,fun k d=>?_⟩;rw [h.block k r7 r7];exact k_ d
theorem dK{f:Q7->Bool}{ts:Q6}{x:Q7}(h:(ts.take k).all f=true)(a:ts[k]?=some x)(b:f x=true):(ts.take (k+1)).all f=true:=by rw [List.take_add_one,a,List.all_append,h];simp [b]
end
end Go.Proofs.YtbgghmjmcapmlaaGreatDoor
