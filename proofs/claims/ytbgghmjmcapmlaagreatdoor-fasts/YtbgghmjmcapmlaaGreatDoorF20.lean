import Derived.Test.YtbgghmjmcapmlaaGreatDoorF19
namespace Go.Proofs.YtbgghmjmcapmlaaGreatDoor
set_option maxHeartbeats 8000000
set_option maxRecDepth 100000
open Go.Proofs.Tryz
open Pl (PV PW PS SR AE arity AO AH AU)
section
open Go.RowKit
variable {W:PW} {S:PS}
theorem YQ{M:Q5}{w X:World}{x:PV}(a:X.heap[w.heap.size]?=some (.cells #[AM (vK x),Q1 (vN x),AM (vS x)] TV (0,0)))(b:¬M w.heap.size):CO M X (.slice (some ⟨w.heap.size,0,none⟩) 1 1) [x]:=by refine⟨rfl,_,_,rfl,n_,.inr ⟨_,0,_,rfl,b,a,fun i u c=>?_⟩⟩;rw [Nat.zero_add];simpa [cZ] using c
def IL(wb xb:Nat)(W:PW)(S:PS)(f:PV)(l:List PV)(r:SR):Prop:=∀(w:World)(M:Q5)(av:Value),RW w wb M W->RS M w xb S->Gs w (Mx M xb)->CO M w av l ->
 Q2 57 #[Q0 wb,Q0 xb,bT f,av] w fun e w'=>F9 M w wb xb r e w'
theorem rY(w:World)(wb d:Nat)(M:Q5)(W:PW)(S:PS)(s:AE)(av:Value)(l:List PV)(r:SR)(hs:s=AU)(hr:¬l.length=1->r=⟨10,W,S⟩)(hA:∀a,l=[a]->IL wb d (W.keep S) S a [.cont W.AG.length] r)(hW:RW w wb M W)(hS:RS M w d S)(hG:Gs w (Mx M d))(ha:CO M w av l)(bg:l.length<=1000)(bh:W.AG.length<=1000000000) :Q2 69 #[Q0 wb,Q0 d,.string ⟨s.toArray⟩,av] w fun e w'=>F9 M w wb d r e w':=by
 obtain⟨i0,ad,ae,af,ag⟩:=info_parts Tryz.YN;have m:Hid (Q3 w ((w.alloc aJ).alloc aH)):=b_.alloc w9 _;have F:=h_ (hW.later m);have Q:=h_ (hS.later hW m);have ah:=h_ (ha.AQ (Stp.AA m));have ai:=h_ (hG.below m);have R:arity s=1:=by subst hs;rfl
 have C:Hid (¬l.length=arity s->r=⟨10,W,S⟩):=fun h=>hr (by rwa [R] at h);have HM:Hid (s∈AO):=show s∈AO from by subst hs;decide
 have HN:=h_ hs;have T:=h_ hA;obtain⟨ao,bi,rfl,bb⟩:=ha.shape;clear hs hr hA hW hS hG ha R;go_enter func69,ntmps69;go_wp2_with fail;refine(bQ _).mono ?_;rintro e w' ⟨rfl,rfl⟩;unfold aJ aH;go_wp2_with fail
 go_loopw [11] (fun i wr=>∃k:Nat,k<=13/\i=.int .i64 k/\wr=(w.alloc aJ).alloc aH/\Hid (DU s l.length k)) (fun i _=>13-(intOf i).toNat)
 case atStart=>exact⟨0,Nat.zero_le _,rfl,rfl,DU.start _ _⟩
 case round =>
  obtain⟨k,O,rfl,rfl,G⟩:=hrel;rcases(show k<13\/k=13 from by omega) with b | rfl
  ·unfold aJ aH at *;by_cases I:AO[k]'b=s
   ·have q:(aW k==s)=true:=by rw [beq_iff_eq,<-bR k b];exact I
    by_cases P:iE[k]'b=l.length
    ·have J:Hid (DU s l.length (k+1)):=G.next b (fun _=>P);have K:=oD b P;clear I P G;clear O;rcases(show k=0\/k=1\/k=2\/k=3\/k=4\/k=5\/k=6\/k=7\/k=8\/k=9\/k=10\/k=11\/k=12 from by omega) with rfl | rfl | rfl | rfl | rfl | rfl | rfl | rfl | rfl | rfl | rfl | rfl | rfl
     all_goals
      simp only [aW,RR] at q K;go_wp2_with fail;exact⟨⟨_,x8,k7,trivial,J⟩,zL5⟩
    ·have HF:=h_ (DU.fail b I P);have K:=jW b P;clear I P G;clear O;rcases(show k=0\/k=1\/k=2\/k=3\/k=4\/k=5\/k=6\/k=7\/k=8\/k=9\/k=10\/k=11\/k=12 from by omega) with rfl | rfl | rfl | rfl | rfl | rfl | rfl | rfl | rfl | rfl | rfl | rfl | rfl
     all_goals
      simp only [aW,RR] at q K;go_wp2_with fail;go_ret;rw [C.out HF.out];exact⟨rfl,M,F,(Stp.AA m).mx d,fun h=>by simp at h⟩
   ·have q:(aW k==s)=false:=by rw [beq_eq_false_iff_ne,<-bR k b];exact I
    have J:Hid (DU s l.length (k+1)):=G.next b (fun e=>absurd e I);clear I G;clear O;rcases(show k=0\/k=1\/k=2\/k=3\/k=4\/k=5\/k=6\/k=7\/k=8\/k=9\/k=10\/k=11\/k=12 from by omega) with rfl | rfl | rfl | rfl | rfl | rfl | rfl | rfl | rfl | rfl | rfl | rfl | rfl
    all_goals
     simp only [aW] at q;go_wp2_with fail;exact⟨⟨_,x8,k7,trivial,J⟩,zL5⟩
  have U:l.length=arity s:=G.done HM;have aj:=HN.out;clear G O C HM HN;generalize (w.alloc aJ).alloc aH=D at *;subst aj;obtain⟨a,rfl⟩:=jK U;have V:Hid (IL wb d (W.keep S) S a [.cont W.AG.length] r):=T.out a rfl;obtain⟨g,c,bc,e',_,ak,X,k0,k1,k2⟩:=ZM ah;simp only [Value.slice.injEq] at e';obtain⟨rfl,_,rfl⟩:=e';have al:=h_ X;have am:=F.out;obtain⟨pv,qv,cv,lv,gv,qs,cs,hM,u⟩:=am;have H:=h_ u;have L:=h_ hM;obtain⟨fv,ev,x0,x1,x2,bj,v,s1,s2,s3⟩:=Q.out;obtain⟨y,rfl⟩:=s3.ptr;have an:=h_ s3;have bk:=h_ v;have ap:=aB v;have aq:=aB u.blk;have c2:D.cell? ⟨wb,2,none⟩=some cv:=aA u.blk 2;have y5:D.cell? ⟨d,5,none⟩=some (.pointer y):=aA v 5;obtain⟨b1,_,_,_⟩:=bM (o:=2) aq;have b5:=(bM (o:=5) ap).1;clear U X hM u v s1 s2 s3 T;unfold AU
  go_upto_region 9 with fail
  go_cut [] (fun wx=>∃z,Hid (RW wx wb z (W.keep S))/\Hid (Stp M D z wx))
  case first =>
   go_region_law ((refine step_append_lies _ m6 _ _ _ m6 0 93 i0 _ 1 8 underlying51 ad ae af ag rfl x8 cv W.AG.length cs m6 ((H.cn.alloc _).drew) ⟨D.heap.size,0,none⟩ 1 1 [.pointer y] m6 m6 (World.news_of_block (cs:=#[.pointer y]) (t:=93) (fr:=(0,0)) (TC D _ _)) zO7 x8 o6 x8 w9 (D.heap.size+1) w9 ?_;intro g3 bd w3 N f Y be;obtain⟨k1,k2,k3⟩:=fD H.blk (cM D _) f (aN H.cn) w8 2 cv rfl))
   all_goals
    obtain⟨q1,q2⟩:=H.P1 (cM D _) f _ (.pointer y) S.AB N (tH Y x8) (by rw [<- L.out];exact an);go_wp2_with fail
    go_meet
    exact⟨_,⟨_,_,_,_,_,_,_,rfl,q1⟩,by rw [L.out];exact q2⟩
  case rest =>
   obtain⟨z,A,j⟩:=hcut;have ar:=h_ (Q.AQ F j);have B:=(j.block g ak al)
   have j0:wc.cell? ⟨g,c,none⟩=some (.string ⟨(vK a).toArray⟩):=(World.cell?_of_block B.1).trans k0;have j1:wc.cell? ⟨g,c+1,none⟩=some (Q1 (vN a)):=(World.cell?_of_block B.1).trans k1;have j2:wc.cell? ⟨g,c+2,none⟩=some (.string ⟨(vS a).toArray⟩):=(World.cell?_of_block B.1).trans k2;obtain⟨bl,bm,au,bn,bo,bp,bq,aw,n⟩:=A.out;have Z:wc.cell? ⟨wb,2,none⟩=some au:=aA n.blk 2;obtain⟨ca,bf,rfl,ax⟩:=dN n.cn;have aa:(W.keep S).AG.length=W.AG.length+1:=by simp [Pl.PW.keep]
   rw [aa] at Z ax;have E:¬z wc.heap.size:=fun hm=>by have:=A.lt hm;omega
   have ab:=h_ E;have ay:Hid (bT a=.agg #[.string ⟨(vK a).toArray⟩,Q1 (vN a),.string ⟨(vS a).toArray⟩]):=rfl;have br:g<wc.heap.size:=World.block_lt_of_cell? _ _ j0;have bs:wb<wc.heap.size:=World.block_lt_of_cell? _ _ Z;have qA:∀(o:Obj)(k c:Nat),k<wc.heap.size->(wc.alloc o).cell? ⟨k,c,none⟩=wc.cell? ⟨k,c,none⟩:=fun o k c O=>(r_.alloc n_ o).cell (p:=⟨k,c,none⟩) O;have az:IntKind.i64.wrap ((W.AG.length:Nat):Int)=(W.AG.length:Int):=IntWalk.i64_in _ x8;clear aw n B k0 k1 k2 E c2 y5 b1 b5 aa H L;generalize vK a=ka at *;generalize vN a=na at *;generalize vS a=sa at *;go_wp2_with fail;have T1:Hid (∀o,RW (wc.alloc o).drew wb z (W.keep S)):=fun o=>A.later (cM wc o);have T2:Hid (∀o,RS z (wc.alloc o).drew d S):=fun o=>ar.later A (cM wc o);have T3:Hid (∀o,Gs (wc.alloc o).drew (Mx z d)):=fun o=>(ai.AQ (j.mx d)).below (cM wc o);have T4:Hid (CO z (wc.alloc (.cells #[.string ⟨#[99,111,110,116,105,110,117,97,116,105,111,110]⟩,Q1 W.AG.length,.string ⟨#[]⟩] 81)).drew (.slice (some ⟨wc.heap.size,0,none⟩) 1 1) [.cont W.AG.length]):=YQ (w:=wc) (x:=.cont W.AG.length) (TC wc _ _) ab;have t5:=V.out _ z _ (T1 _) (T2 _) (T3 _) T4;rw [ay.out] at t5;have T5:=h_ t5;clear t5;go_region_with (go_at_call 57;refine Calls.mono T5 ?_;rintro e w5 ⟨rfl,ac⟩)
   all_goals
    have ba:=h_ ac;clear ac;go_wp2_with fail;go_ret;obtain⟨M',z1,z2,z3⟩:=ba.out;exact⟨rfl,M',z1,(((Stp.AA m).mx d).trans (j.mx d)).trans (((Stp.AA (cM wc _)).mx d).trans z2),z3⟩
structure Bd(W:PW):Prop where
 places:W.places.length<=100000000
 procs:∀p∈W.procs,p.2.length<=100000000
 AG:W.AG.length<=100000000
 globals:W.globals.length<=100000000
 FU:W.procs.length<=100000000
theorem BL.keep{v:PV}(h:BL W v):BL (W.keep S) v:=by
 cases v with
 | cont i=>simp only [BL,Pl.PW.keep,a_] at h ⊢;omega
 | _=>exact h
theorem L2.keep(h:L2 W):L2 (W.keep S):=⟨h.KV,fun i p a=>⟨(h.CH i p a).1.keep,(h.CH i p a).2.keep⟩,h.len⟩
theorem BL.last:BL (W.keep S) (.cont W.AG.length):=by simp [BL,Pl.PW.keep]
theorem g9(w:World)(wb c:Nat)(M:Q5)(W:PW)(S:PS)(f:Value)(l:List PV)(r:SR)(d:¬l.length=1->r=⟨10,W,S⟩)(m:∀a,l=[a]->IL wb c (W.keep S) S a [.cont W.AG.length] r)(g:RW w wb M W)(n:RS M w c S)(p:Gs w (Mx M c))(h:CO M w f l)(i:l.length<=1000)(j:W.AG.length<=1000000000) :Q2 57 #[Q0 wb,Q0 c,bT (.AZ AU),f] w fun e k=>F9 M w wb c r e k:=by have b:Hid (∀o:Obj,Q3 w (w.alloc o)):=fun o=>b_;have q:Hid (∀o:Obj,Q2 69 #[Q0 wb,Q0 c,.string ⟨Pl.AU.toArray⟩,f] (w.alloc o) fun e k=>F9 M (w.alloc o) wb c r e k):=fun o =>rY (w.alloc o) wb c M W S _ f l r rfl d m (g.later (b o)) (n.later g (b o)) (p.below (b o)) (h.AQ (Stp.AA (b o))) i j;obtain⟨v,s,rfl,t⟩:=h.shape;clear g n p h d m;unfold bT AM vK vN vS pH;unfold AU at q ⊢;go_enter func57,ntmps57;go_wp2_with fail;refine(q _).mono ?_;rintro e x d;have u:Hid _:=F9.pre (b _) d;obtain⟨rfl,_⟩:=d;go_wp2_with fail;go_ret;exact⟨rfl,u.2⟩
theorem uF(I:AY)(w:World)(wb d:Nat)(M:Q5)(W:PW)(S:PS)(f:PV)(p:Value)(l:List PV)(D:RW w wb M W)(E:RS M w d S)(F:Gs w (Mx M d))(G:CO M w p l)(J:BL W f)(H:∀v∈l,BL W v)(r:L2 W)(q:Bd W)(m:l.length<=1000) :Q2 57 #[Q0 wb,Q0 d,bT f,p] w fun e K=>F9 M w wb d (Pl.apply W S f l) e K:=by
 have b:∀(c:PW)(j:PV)(k:List PV),j≠.AZ AU->BL c j->(∀v∈k,BL c v)->L2 c->k.length<=1000->c.places=W.places->c.procs=W.procs->IL wb d c S j k (AH c S j k):=by intro c j k L N O P Q R T s t g u x y z;exact rZ I s wb d t c S j g k L u x y z N O P Q (by rw [R];exact q.places) (by rw [T];exact q.procs)
 by_cases A:f=.AZ AU
 ·subst A;refine g9 w wb d M W S p l _ ?_ ?_ D E F G m (by have:=q.AG;omega)
  ·intro U;unfold Pl.apply;rw [if_pos rfl]
   match l,U with
   | [],_=>rfl
   | _::_::_,_=>rfl
  ·rintro a rfl;by_cases i:a=.AZ AU
   ·subst i;have n:Pl.apply W S (.AZ AU) [.AZ AU]=AH ((W.keep S).keep S) S (.cont W.AG.length) [.cont (W.AG.length+1)]:=by unfold Pl.apply;rw [if_pos rfl];dsimp only;rw [if_pos rfl]
    rw [n];intro s t g u x y z;refine g9 s wb d t (W.keep S) S g _ _ (fun h=>absurd rfl h) ?_ u x y z w9 (by have:=q.AG;simp [Pl.PW.keep];omega);intro a B;obtain rfl:a=.cont W.AG.length:=by simpa using B.symm
    have o:(W.keep S).AG.length=W.AG.length+1:=by simp [Pl.PW.keep]
    rw [o];refine b _ _ _ w9 ?_ ?_ r.keep.keep w9 rfl rfl
    ·exact BL.keep BL.last
    ·intro v C;obtain rfl:v=.cont (W.AG.length+1):=by simpa using C
     have:=BL.last (W:=W.keep S) (S:=S)
     rwa [o] at this
   ·have n:Pl.apply W S (.AZ AU) [a]=AH (W.keep S) S a [.cont W.AG.length]:=by
     unfold Pl.apply;rw [if_pos rfl];dsimp only;rw [if_neg i]
    rw [n];refine b _ _ _ i (H a w9).keep ?_ r.keep w9 rfl rfl;intro v C;obtain rfl:v=.cont W.AG.length:=by simpa using C
    exact BL.last
 ·have n:Pl.apply W S f l=AH W S f l:=by unfold Pl.apply;rw [if_neg A]
  rw [n];exact b W f l A J H r m rfl rfl w M p D E F G
end
end Go.Proofs.YtbgghmjmcapmlaaGreatDoor
