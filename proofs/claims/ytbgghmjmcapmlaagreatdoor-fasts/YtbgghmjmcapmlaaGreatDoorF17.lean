import Derived.Test.YtbgghmjmcapmlaaGreatDoorF15
namespace Go.Proofs.YtbgghmjmcapmlaaGreatDoor
set_option maxHeartbeats 8000000
set_option maxRecDepth 100000
open Go.Proofs.Tryz
open Pl (PV PW PS AE arity AO AH CS)
section
open Go.RowKit
theorem aggP(n:Nat):bT (.pair n)=.agg #[.string ⟨#[112,97,105,114]⟩,.int .i64 n,.string ⟨#[]⟩]:=rfl
theorem rV(hI:AY)(w:World)(wb d:Nat)(M:Q5)(W:PW)(S:PS)(s:AE)(av:Value)(l:List PV)(L:s=CS)(N:RW w wb M W)(hS:RS M w d S)(hG:Gs w (Mx M d))(O:CO M w av l)(hl:∀v∈l,BL W v)(hP:L2 W)(ae:l.length<=1000) :Q2 69 #[Q0 wb,Q0 d,.string ⟨s.toArray⟩,av] w fun e w'=>F9 M w wb d (AH W S (.AZ s) l) e w':=by
 have c:Hid (Q3 w ((w.alloc aJ).alloc aH)):=b_.alloc w9 _;have f:=h_ (N.later c);have F:=h_ (hS.later N c);have P:=h_ (O.AQ (Stp.AA c));have af:=h_ (hG.below c);have r:Hid (¬l.length=arity s->AH W S (.AZ s) l=⟨10,W,S⟩):=fun h=>eZ h;have HI:Hid AY:=hI;have HL:=h_ hl;have HP:=h_ hP;have Q:Hid (s∈AO):=show s∈AO from by subst L;decide
 have HN:=h_ L;obtain⟨ao,ag,rfl,aa⟩:=O.shape;clear hI L N hS hG O hl hP;go_enter func69,ntmps69;go_wp2_with fail;refine(bQ _).mono ?_;rintro e w' ⟨rfl,rfl⟩;unfold aJ aH;go_wp2_with fail
 go_loopw [11] (fun i wr=>∃k:Nat,k<=13/\i=.int .i64 k/\wr=(w.alloc aJ).alloc aH/\Hid (DU s l.length k)) (fun i _=>13-(intOf i).toNat)
 case atStart=>exact⟨0,Nat.zero_le _,rfl,rfl,DU.start _ _⟩
 case round =>
  obtain⟨k,K,rfl,rfl,z⟩:=hrel;rcases(show k<13\/k=13 from by omega) with a | rfl
  ·unfold aJ aH at *;by_cases A:AO[k]'a=s
   ·have q:(aW k==s)=true:=by rw [beq_iff_eq,<-bR k a];exact A
    by_cases E:iE[k]'a=l.length
    ·have B:Hid (DU s l.length (k+1)):=z.next a (fun _=>E);have C:=oD a E;clear A E z;clear K;rcases(show k=0\/k=1\/k=2\/k=3\/k=4\/k=5\/k=6\/k=7\/k=8\/k=9\/k=10\/k=11\/k=12 from by omega) with rfl | rfl | rfl | rfl | rfl | rfl | rfl | rfl | rfl | rfl | rfl | rfl | rfl
     all_goals
      simp only [aW,RR] at q C;go_wp2_with fail;exact⟨⟨_,x8,k7,trivial,B⟩,zL5⟩
    ·have HF:=h_ (DU.fail a A E);have C:=jW a E;clear A E z;clear K;rcases(show k=0\/k=1\/k=2\/k=3\/k=4\/k=5\/k=6\/k=7\/k=8\/k=9\/k=10\/k=11\/k=12 from by omega) with rfl | rfl | rfl | rfl | rfl | rfl | rfl | rfl | rfl | rfl | rfl | rfl | rfl
     all_goals
      simp only [aW,RR] at q C;go_wp2_with fail;go_ret;rw [r.out HF.out];exact⟨rfl,M,f,(Stp.AA c).mx d,fun h=>by simp at h⟩
   ·have q:(aW k==s)=false:=by rw [beq_eq_false_iff_ne,<-bR k a];exact A
    have B:Hid (DU s l.length (k+1)):=z.next a (fun e=>absurd e A);clear A z;clear K;rcases(show k=0\/k=1\/k=2\/k=3\/k=4\/k=5\/k=6\/k=7\/k=8\/k=9\/k=10\/k=11\/k=12 from by omega) with rfl | rfl | rfl | rfl | rfl | rfl | rfl | rfl | rfl | rfl | rfl | rfl | rfl
    all_goals
     simp only [aW] at q;go_wp2_with fail;exact⟨⟨_,x8,k7,trivial,B⟩,zL5⟩
  have G:l.length=arity s:=z.done Q;have ab:=Q.out;have R:=HN.out;clear z K r Q HN;generalize (w.alloc aJ).alloc aH=b at *;subst R
  ·obtain⟨x,y,rfl⟩:=fE G;obtain⟨g,ah,ac,e',_,ai,_,k0,k1,k2,k3,k4,k5⟩:=got2 P;simp only [Value.slice.injEq] at e';obtain⟨rfl,_,rfl⟩:=e';have H:=HP.len;clear G;unfold CS;go_wp2_with fail;have I:Q3 b b.drew:=r_.drew;have J:∀o:Obj,Q3 b (b.alloc o).drew:=fun o=>b_.drew;have T:=h_ I;have U:=h_ J;clear I J
   go_region_with (first
    | (go_at_call 56;refine(mZ b _ wb M W x y f T H).mono ?_;rintro e j ⟨rfl,t,m,n,_⟩;have D:=(show Hid (Stp M b t j) from n);have p:=(show Hid _ from m);have ad:Hid (j=j\/True):=.inl rfl;clear m n;simp only [aggP])
    | (go_at_call 56;refine(mZ b _ wb M W x y f (U _) H).mono ?_;rintro e j ⟨rfl,t,m,n,u⟩;obtain⟨h4,h5⟩:=u b.heap.size _ n_ (heap_alloc_new b _);obtain⟨v0,v1,v2,f0,f1,f2,s1,s2,s3⟩:=FA h4;have D:=(show Hid (Stp M b t j) from n);have p:=(show Hid _ from m);have V:=(show Hid _ from h5);clear m n u h4 h5;simp only [aggP]))
   all_goals
    go_wp2_with fail
    first
     | (
      refine(aT (j.alloc _) wb d t {W with pairs:=W.pairs++[(x,y)]} S (.pair W.pairs.length) (RW.later (w:=j) p b_) (RS.later (W:={W with pairs:=W.pairs++[(x,y)]}) (wb:=wb) (F.AQ f D) p b_)).mono ?_;have HZ:Hid (∀o:Obj,Stp (Mx M d) b (Mx t d) (j.alloc o)):=fun o=>(D.mx d).trans ((Stp.AA b_).mx d);rintro e w2 ⟨rfl,m,n,u⟩;have X:=h_ m;have Y:=h_ n;have Z:=h_ u;clear m n u;go_wp2_with fail;go_ret
      exact F9.pre c ⟨rfl,t,X,(HZ _).trans Z,fun _=>Y.out⟩)
     | (
      refine(aT _ wb d t _ S (.pair W.pairs.length) (V _ (grown3 j b.heap.size _ _ _)).1 (F.AQ f (V _ (grown3 j b.heap.size _ _ _)).2)).mono ?_;rintro e w2 ⟨rfl,m,n,u⟩;have X:=h_ m;have Y:=h_ n;have Z:=h_ u;clear m n u;go_wp2_with fail;go_ret
      exact F9.pre c ⟨rfl,t,X,((V _ (grown3 j b.heap.size _ _ _)).2.mx d).trans Z,fun _=>Y.out⟩)
end
end Go.Proofs.YtbgghmjmcapmlaaGreatDoor
