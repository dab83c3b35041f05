import Derived.Test.YtbgghmjmcapmlaaGreatDoorF15
namespace Go.Proofs.YtbgghmjmcapmlaaGreatDoor
set_option maxHeartbeats 8000000
set_option maxRecDepth 100000
open Go.Proofs.Tryz
open Pl (PV PW PS AE arity AO AH BR)
theorem zH9{P:Prop}(h:P:=by
 generalize vK x=V at *;generalize vN x=X at *;generalize vS x=Y at *;generalize vK y=ky at *;generalize vN y=ny at *;generalize vS y=sy at *;unfold BR;go_wp2_with fail;go_region_with (first | (go_at_call 83;refine(cT _ false).mono ?_;rintro e o ⟨rfl,d⟩;have p:=(show Hid (RW o wb M W) from b.later ((Below.trans r_.drew d)));have q:=(show Hid (RS M o j S) from t.later b (Below.trans r_.drew d));have F:=(show Hid (Q3 A o) from Below.trans r_.drew d);clear d) | (go_at_call 42;refine(aT _ wb j M W S (.AT false) p q).mono ?_;rintro e Z ⟨rfl,f,m,n⟩))
 all_goals
  have G:=h_ f;have H:=h_ m;have I:=h_ n;clear f m n;go_wp2_with fail;go_ret;refine F9.pre a ?_;rw [L.out];exact⟨rfl,M,G,((Stp.AA F).mx j).trans I,fun _=>H.out⟩):P:=h
section
open Go.RowKit
theorem rU(hI:AY)(w:World)(wb j:Nat)(M:Q5)(W:PW)(S:PS)(s:AE)(av:Value)(l:List PV)(O:s=BR)(P:RW w wb M W)(hS:RS M w j S)(hG:Gs w (Mx M j))(Q:CO M w av l)(hl:∀v∈l,BL W v)(hP:L2 W)(ad:l.length<=1000) :Q2 69 #[Q0 wb,Q0 j,.string ⟨s.toArray⟩,av] w fun e w'=>F9 M w wb j (AH W S (.AZ s) l) e w':=by
 have a:Hid (Q3 w ((w.alloc aJ).alloc aH)):=b_.alloc w9 _;have b:=h_ (P.later a);have t:=h_ (hS.later P a);have R:=h_ (Q.AQ (Stp.AA a));have ae:=h_ (hG.below a);have z:Hid (¬l.length=arity s->AH W S (.AZ s) l=⟨10,W,S⟩):=fun h=>eZ h;have HI:Hid AY:=hI;have HL:=h_ hl;have HP:=h_ hP;have T:Hid (s∈AO):=show s∈AO from by subst O;decide
 have HN:=h_ O;obtain⟨ao,af,rfl,aa⟩:=Q.shape;clear hI O P hS hG Q hl hP;go_enter func69,ntmps69;go_wp2_with fail;refine(bQ _).mono ?_;rintro e w' ⟨rfl,rfl⟩;unfold aJ aH;go_wp2_with fail
 go_loopw [11] (fun i wr=>∃k:Nat,k<=13/\i=.int .i64 k/\wr=(w.alloc aJ).alloc aH/\Hid (DU s l.length k)) (fun i _=>13-(intOf i).toNat)
 case atStart=>exact⟨0,Nat.zero_le _,rfl,rfl,DU.start _ _⟩
 case round =>
  obtain⟨k,N,rfl,rfl,B⟩:=hrel;rcases(show k<13\/k=13 from by omega) with c | rfl
  ·unfold aJ aH at *;by_cases C:AO[k]'c=s
   ·have u:(aW k==s)=true:=by rw [beq_iff_eq,<-bR k c];exact C
    by_cases J:iE[k]'c=l.length
    ·have D:Hid (DU s l.length (k+1)):=B.next c (fun _=>J);have E:=oD c J;clear C J B;clear N;rcases(show k=0\/k=1\/k=2\/k=3\/k=4\/k=5\/k=6\/k=7\/k=8\/k=9\/k=10\/k=11\/k=12 from by omega) with rfl | rfl | rfl | rfl | rfl | rfl | rfl | rfl | rfl | rfl | rfl | rfl | rfl
     all_goals
      simp only [aW,RR] at u E;go_wp2_with fail;exact⟨⟨_,x8,k7,trivial,D⟩,zL5⟩
    ·have HF:=h_ (DU.fail c C J);have E:=jW c J;clear C J B;clear N;rcases(show k=0\/k=1\/k=2\/k=3\/k=4\/k=5\/k=6\/k=7\/k=8\/k=9\/k=10\/k=11\/k=12 from by omega) with rfl | rfl | rfl | rfl | rfl | rfl | rfl | rfl | rfl | rfl | rfl | rfl | rfl
     all_goals
      simp only [aW,RR] at u E;go_wp2_with fail;go_ret;rw [z.out HF.out];exact⟨rfl,M,b,(Stp.AA a).mx j,fun h=>by simp at h⟩
   ·have u:(aW k==s)=false:=by rw [beq_eq_false_iff_ne,<-bR k c];exact C
    have D:Hid (DU s l.length (k+1)):=B.next c (fun e=>absurd e C);clear C B;clear N;rcases(show k=0\/k=1\/k=2\/k=3\/k=4\/k=5\/k=6\/k=7\/k=8\/k=9\/k=10\/k=11\/k=12 from by omega) with rfl | rfl | rfl | rfl | rfl | rfl | rfl | rfl | rfl | rfl | rfl | rfl | rfl
    all_goals
     simp only [aW] at u;go_wp2_with fail;exact⟨⟨_,x8,k7,trivial,D⟩,zL5⟩
  have K:l.length=arity s:=B.done T;have ab:=T.out;have U:=HN.out;clear B N z T HN;generalize (w.alloc aJ).alloc aH=A at *;subst U
  ·obtain⟨x,y,rfl⟩:=fE K;obtain⟨g,ag,ac,e',_,ah,_,k0,k1,k2,k3,k4,k5⟩:=got2 R;simp only [Value.slice.injEq] at e';obtain⟨rfl,_,rfl⟩:=e';clear K;by_cases r:x=y
   ·subst r;have L:Hid (AH W S (.AZ BR) [x,x]=⟨0,W,S.A1 (.AT true)⟩):=show AH W S (.AZ BR) [x,x]=_ from Z5 W S x x true w9;generalize vK x=V at *;generalize vN x=X at *;generalize vS x=Y at *;unfold BR;go_wp2_with fail;go_region_with (first | (go_at_call 83;refine(cT _ true).mono ?_;rintro e o ⟨rfl,d⟩;have p:=(show Hid (RW o wb M W) from b.later ((Below.trans r_.drew d)));have q:=(show Hid (RS M o j S) from t.later b (Below.trans r_.drew d));have F:=(show Hid (Q3 A o) from Below.trans r_.drew d);clear d) | (go_at_call 42;refine(aT _ wb j M W S (.AT true) p q).mono ?_;rintro e Z ⟨rfl,f,m,n⟩))
    all_goals
     have G:=h_ f;have H:=h_ m;have I:=h_ n;clear f m n;go_wp2_with fail;go_ret;refine F9.pre a ?_;rw [L.out];exact⟨rfl,M,G,((Stp.AA F).mx j).trans I,fun _=>H.out⟩
   ·have L:Hid (AH W S (.AZ BR) [x,y]=⟨0,W,S.A1 (.AT false)⟩):=show AH W S (.AZ BR) [x,y]=_ from Z5 W S x y false (by simp [r]);by_cases f:vK x=vK y
    ·by_cases m:vN x=vN y
     ·have n:¬vS x=vS y:=fun n=>r (pv_ext x y f m n);have b1:(vK x==vK y)=true:=by rw [beq_iff_eq];exact f
      have b2:(vN x==vN y)=true:=by rw [beq_iff_eq];exact m
      have b3:(vS x==vS y)=false:=by rw [beq_eq_false_iff_ne];exact n
      clear f m n r;exact zH9
     ·have b1:(vK x==vK y)=true:=by rw [beq_iff_eq];exact f
      have b2:(vN x==vN y)=false:=by rw [beq_eq_false_iff_ne];exact m
      clear f m r;exact zH9
    ·have b1:(vK x==vK y)=false:=by rw [beq_eq_false_iff_ne];exact f
     clear f r;exact zH9
end
end Go.Proofs.YtbgghmjmcapmlaaGreatDoor
