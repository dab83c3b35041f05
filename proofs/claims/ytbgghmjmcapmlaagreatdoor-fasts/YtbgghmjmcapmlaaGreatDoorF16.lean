import Derived.Test.YtbgghmjmcapmlaaGreatDoorF15
namespace Go.Proofs.YtbgghmjmcapmlaaGreatDoor
set_option maxHeartbeats 8000000
set_option maxRecDepth 100000
open Go.Proofs.Tryz
open Pl (PV PW PS AE arity AO AH BH A4 BA BW IA C8 DN DY DW A7)
theorem zH7{P:Prop}(h:P:=by rintro e F n;have q:=h_ (F9.pre b n);obtain⟨rfl,_⟩:=n;go_wp2_with fail;go_ret;exact⟨rfl,q.2⟩):P:=h
theorem zH8{P:Prop}(h:P:=by go_wp2_with fail;go_ret;rw [Z.out];exact F9.pre f ⟨rfl,M,d,Stp.refl _ _,fun h=>by simp at h⟩):P:=h
section
open Go.RowKit
theorem cN(hI:AY)(w:World)(wb m:Nat)(M:Q5)(W:PW)(S:PS)(s:AE)(av:Value)(l:List PV)(N:s=BH\/s=A4\/s=BA\/s=BW\/s=IA\/s=DY\/s=DW)(O:RW w wb M W)(hS:RS M w m S)(hG:Gs w (Mx M m))(P:CO M w av l)(hl:∀v∈l,BL W v)(hP:L2 W)(ac:l.length<=1000) :Q2 69 #[Q0 wb,Q0 m,.string ⟨s.toArray⟩,av] w fun e w'=>F9 M w wb m (AH W S (.AZ s) l) e w':=by
 have b:Hid (Q3 w ((w.alloc aJ).alloc aH)):=b_.alloc w9 _;have c:=h_ (O.later b);have f:=h_ (hS.later O b);have j:=h_ (P.AQ (Stp.AA b));have ad:=h_ (hG.below b);have t:Hid (¬l.length=arity s->AH W S (.AZ s) l=⟨10,W,S⟩):=fun h=>eZ h;have HI:Hid AY:=hI;have o:=h_ hl;have HP:=h_ hP;have Q:Hid (s∈AO):=show s∈AO from by rcases N with rfl | rfl | rfl | rfl | rfl | rfl | rfl<;>decide
 have HN:=h_ N;obtain⟨ao,ae,rfl,aa⟩:=P.shape;clear hI N O hS hG P hl hP;go_enter func69,ntmps69;go_wp2_with fail;refine(bQ _).mono ?_;rintro e w' ⟨rfl,rfl⟩;unfold aJ aH;go_wp2_with fail
 go_loopw [11] (fun i wr=>∃k:Nat,k<=13/\i=.int .i64 k/\wr=(w.alloc aJ).alloc aH/\Hid (DU s l.length k)) (fun i _=>13-(intOf i).toNat)
 case atStart=>exact⟨0,Nat.zero_le _,rfl,rfl,DU.start _ _⟩
 case round =>
  obtain⟨k,L,rfl,rfl,u⟩:=hrel;rcases(show k<13\/k=13 from by omega) with d | rfl
  ·unfold aJ aH at *;by_cases z:AO[k]'d=s
   ·have p:(aW k==s)=true:=by rw [beq_iff_eq,<-bR k d];exact z
    by_cases E:iE[k]'d=l.length
    ·have A:Hid (DU s l.length (k+1)):=u.next d (fun _=>E);have B:=oD d E;clear z E u;clear L;rcases(show k=0\/k=1\/k=2\/k=3\/k=4\/k=5\/k=6\/k=7\/k=8\/k=9\/k=10\/k=11\/k=12 from by omega) with rfl | rfl | rfl | rfl | rfl | rfl | rfl | rfl | rfl | rfl | rfl | rfl | rfl
     all_goals
      simp only [aW,RR] at p B;go_wp2_with fail;exact⟨⟨_,x8,k7,trivial,A⟩,zL5⟩
    ·have HF:=h_ (DU.fail d z E);have B:=jW d E;clear z E u;clear L;rcases(show k=0\/k=1\/k=2\/k=3\/k=4\/k=5\/k=6\/k=7\/k=8\/k=9\/k=10\/k=11\/k=12 from by omega) with rfl | rfl | rfl | rfl | rfl | rfl | rfl | rfl | rfl | rfl | rfl | rfl | rfl
     all_goals
      simp only [aW,RR] at p B;go_wp2_with fail;go_ret;rw [t.out HF.out];exact⟨rfl,M,c,(Stp.AA b).mx m,fun h=>by simp at h⟩
   ·have p:(aW k==s)=false:=by rw [beq_eq_false_iff_ne,<-bR k d];exact z
    have A:Hid (DU s l.length (k+1)):=u.next d (fun e=>absurd e z);clear z u;clear L;rcases(show k=0\/k=1\/k=2\/k=3\/k=4\/k=5\/k=6\/k=7\/k=8\/k=9\/k=10\/k=11\/k=12 from by omega) with rfl | rfl | rfl | rfl | rfl | rfl | rfl | rfl | rfl | rfl | rfl | rfl | rfl
    all_goals
     simp only [aW] at p;go_wp2_with fail;exact⟨⟨_,x8,k7,trivial,A⟩,zL5⟩
  have a:l.length=arity s:=u.done Q;have ab:=Q.out;have R:=HN.out;clear u L t Q HN;generalize (w.alloc aJ).alloc aH=wA at *;rcases R with rfl | rfl | rfl | rfl | rfl | rfl | rfl
  ·obtain⟨x,y,rfl⟩:=fE a;clear a;unfold BH;go_wp2_with fail;refine(dO _ wb m M M W S _ _ x y (.inl rfl) c f j (o x w9) (o y w9)).mono ?_;exact zH7
  ·obtain⟨x,y,rfl⟩:=fE a;clear a;unfold A4;go_wp2_with fail;refine(dO _ wb m M M W S _ _ x y (.inr (.inl rfl)) c f j (o x w9) (o y w9)).mono ?_;exact zH7
  ·obtain⟨x,y,rfl⟩:=fE a;clear a;unfold BA;go_wp2_with fail;refine(dO _ wb m M M W S _ _ x y (.inr (.inr (.inl rfl))) c f j (o x w9) (o y w9)).mono ?_;exact zH7
  ·obtain⟨x,y,rfl⟩:=fE a;clear a;unfold BW;go_wp2_with fail;refine(dO _ wb m M M W S _ _ x y (.inr (.inr (.inr (.inl rfl)))) c f j (o x w9) (o y w9)).mono ?_;exact zH7
  ·obtain⟨x,y,rfl⟩:=fE a;clear a;unfold IA;go_wp2_with fail;refine(dO _ wb m M M W S _ _ x y (.inr (.inr (.inr (.inr rfl)))) c f j (o x w9) (o y w9)).mono ?_;exact zH7
  ·obtain⟨x,rfl⟩:=jK a;obtain⟨g,T,G,H,_,U,_,k0,k1,k2⟩:=ZM j;simp only [Value.slice.injEq] at H;obtain⟨rfl,_,rfl⟩:=H;clear a;unfold DY;go_wp2_with fail;refine(cT _ _).mono ?_;rintro e w1 ⟨rfl,r⟩;have C:=h_ (c.later r);have D:=h_ (f.later c r);have V:=h_ r;clear r;go_wp2_with fail;refine(aT _ wb m M W S _ C D).mono ?_;rintro e F ⟨rfl,I,J,K⟩;have X:=h_ I;have Y:=h_ J;have Z:=h_ K;clear I J K;go_wp2_with fail;go_ret;refine F9.pre b ?_;rw [show AH W S (.AZ _) [x]=_ from nullT W S x];exact⟨rfl,M,X,((Stp.AA V).mx m).trans Z,fun _=>Y.out⟩
  ·obtain⟨x,rfl⟩:=jK a;obtain⟨g,T,G,H,_,U,_,k0,k1,k2⟩:=ZM j;simp only [Value.slice.injEq] at H;obtain⟨rfl,_,rfl⟩:=H;clear a;unfold DW;go_wp2_with fail;refine(cT _ _).mono ?_;rintro e w1 ⟨rfl,r⟩;have C:=h_ (c.later r);have D:=h_ (f.later c r);have V:=h_ r;clear r;go_wp2_with fail;refine(aT _ wb m M W S _ C D).mono ?_;rintro e F ⟨rfl,I,J,K⟩;have X:=h_ I;have Y:=h_ J;have Z:=h_ K;clear I J K;go_wp2_with fail;go_ret;refine F9.pre b ?_;rw [show AH W S (.AZ _) [x]=_ from pairT W S x];exact⟨rfl,M,X,((Stp.AA V).mx m).trans Z,fun _=>Y.out⟩
theorem gQ(hI:AY)(w:World)(wb m:Nat)(M:Q5)(W:PW)(S:PS)(s:AE)(av:Value)(l:List PV)(hs:s=DN\/s=C8\/s=A7)(hW:RW w wb M W)(hS:RS M w m S)(hG:Gs w (Mx M m))(ha:CO M w av l)(hl:∀v∈l,BL W v)(hP:L2 W)(bm:l.length<=1000) :Q2 69 #[Q0 wb,Q0 m,.string ⟨s.toArray⟩,av] w fun e w'=>F9 M w wb m (AH W S (.AZ s) l) e w':=by
 have f:Hid (Q3 w ((w.alloc aJ).alloc aH)):=b_.alloc w9 _;have d:Hid (RW ((w.alloc aJ).alloc aH) wb M W):=hW.later f;have T:Hid (RS M ((w.alloc aJ).alloc aH) m S):=hS.later hW f;have A:Hid (CO M ((w.alloc aJ).alloc aH) av l):=ha.AQ (Stp.AA f);have ah:Hid (Gs ((w.alloc aJ).alloc aH) (Mx M m)):=hG.below f;have N:Hid (¬l.length=arity s->AH W S (.AZ s) l=⟨10,W,S⟩):=fun h=>eZ h;have HI:Hid AY:=hI;have HL:Hid (∀v∈l,BL W v):=hl;have HP:Hid (L2 W):=hP;have HM:Hid (s∈AO):=show s∈AO from by rcases hs with rfl | rfl | rfl<;>decide
 have HN:Hid _:=hs;obtain⟨ao,bn,rfl,bi⟩:=ha.shape;clear hI hs hW hS hG ha hl hP;go_enter func69,ntmps69;go_wp2_with fail;refine(bQ _).mono ?_;rintro e w' ⟨rfl,rfl⟩;unfold aJ aH;go_wp2_with fail
 go_loopw [11] (fun i wr=>∃k:Nat,k<=13/\i=.int .i64 k/\wr=(w.alloc aJ).alloc aH/\Hid (DU s l.length k)) (fun i _=>13-(intOf i).toNat)
 case atStart=>exact⟨0,Nat.zero_le _,rfl,rfl,DU.start _ _⟩
 case round =>
  obtain⟨k,hk,rfl,rfl,U⟩:=hrel;rcases(show k<13\/k=13 from by omega) with j | rfl
  ·unfold aJ aH at *;by_cases F:AO[k]'j=s
   ·have H:(aW k==s)=true:=by rw [beq_iff_eq,<-bR k j];exact F
    by_cases hn:iE[k]'j=l.length
    ·have V:Hid (DU s l.length (k+1)):=U.next j (fun _=>hn);have X:=oD j hn;clear F hn U;clear hk;rcases(show k=0\/k=1\/k=2\/k=3\/k=4\/k=5\/k=6\/k=7\/k=8\/k=9\/k=10\/k=11\/k=12 from by omega) with rfl | rfl | rfl | rfl | rfl | rfl | rfl | rfl | rfl | rfl | rfl | rfl | rfl
     all_goals
      simp only [aW,RR] at H X;go_wp2_with fail;exact⟨⟨_,x8,k7,trivial,V⟩,zL5⟩
    ·have HF:Hid (¬l.length=arity s):=DU.fail j F hn;have X:=jW j hn;clear F hn U;clear hk;rcases(show k=0\/k=1\/k=2\/k=3\/k=4\/k=5\/k=6\/k=7\/k=8\/k=9\/k=10\/k=11\/k=12 from by omega) with rfl | rfl | rfl | rfl | rfl | rfl | rfl | rfl | rfl | rfl | rfl | rfl | rfl
     all_goals
      simp only [aW,RR] at H X;go_wp2_with fail;go_ret;rw [N.out HF.out];exact⟨rfl,M,d,(Stp.AA f).mx m,fun h=>by simp at h⟩
   ·have H:(aW k==s)=false:=by rw [beq_eq_false_iff_ne,<-bR k j];exact F
    have V:Hid (DU s l.length (k+1)):=U.next j (fun e=>absurd e F);clear F U;clear hk;rcases(show k=0\/k=1\/k=2\/k=3\/k=4\/k=5\/k=6\/k=7\/k=8\/k=9\/k=10\/k=11\/k=12 from by omega) with rfl | rfl | rfl | rfl | rfl | rfl | rfl | rfl | rfl | rfl | rfl | rfl | rfl
    all_goals
     simp only [aW] at H;go_wp2_with fail;exact⟨⟨_,x8,k7,trivial,V⟩,zL5⟩
  have n:l.length=arity s:=U.done HM;have bj:=HM.out;have ai:=HN.out;clear U hk N HM HN;generalize (w.alloc aJ).alloc aH=q at *;rcases ai with rfl | rfl | rfl
  ·obtain⟨x,rfl⟩:=jK n;rcases iK x with⟨i,rfl⟩ | ⟨B,Y⟩
   ·obtain⟨p,I⟩:∃p,W.pairs[i]?=some p:=⟨_,g_ (HL (.pair i) w9)⟩
    have Z:Hid (AH W S (.AZ DN) [.pair i]=⟨0,W,S.A1 p.1⟩):=carT W S i p I;obtain⟨g,a,u,y,_,J,_,O,P,k2⟩:=ZM A;simp only [Value.slice.injEq] at y;obtain⟨rfl,_,rfl⟩:=y;have C:=d.out;obtain⟨pv,qv,cv,lv,gv,qs,cs,hM,c⟩:=C;obtain⟨gp,D,rfl,aa,aj,d0,d1,d2,d3,d4,d5⟩:=yB c I;have c0:q.cell? ⟨wb,0,none⟩=some (.slice (some ⟨gp,0,none⟩) W.pairs.length D):=aA c.blk 0;have ab:=aB c.blk;have ak:(i:Int)<(W.pairs.length:Int):=by have:i<W.pairs.length:=(s_ I).1;omega
    have al:q.cell? ⟨g,a,none⟩=some (.string ⟨#[112,97,105,114]⟩):=O;have am:q.cell? ⟨g,a+1,none⟩=some (Q1 i):=P;have qA:∀(o:Obj)(b a:Nat),b<q.heap.size->(q.alloc o).cell? ⟨b,a,none⟩=q.cell? ⟨b,a,none⟩:=fun o b a hb=>(r_.alloc n_ o).cell (p:=⟨b,a,none⟩) hb;clear n I hM c O P k2;unfold DN;go_wp2_with fail
    go_region
    all_goals
     go_wp2_with fail
     refine(aT _ wb m M W S p.1 (d.later b_.drew) (T.later d b_.drew)).mono ?_;rintro e w2 ⟨rfl,G,K,Q⟩;have H1:Hid _:=G;have H2:Hid _:=K;have H3:Hid _:=Q;clear G K Q;go_wp2_with fail;go_ret;refine F9.pre f ?_;rw [Z.out];exact⟨rfl,M,H1,((Stp.AA b_.drew).mx m).trans H3,fun _=>H2.out⟩
   ·obtain⟨g,a,u,y,_,J,_,O,P,k2⟩:=ZM A;simp only [Value.slice.injEq] at y;obtain⟨rfl,_,rfl⟩:=y;have an:(vK x !=[112,97,105,114])=true:=by rw [bne,Y];rfl
    have Z:Hid (AH W S (.AZ DN) [x]=⟨9,W,S⟩):=carN W S x B;clear n B;generalize vK x=kk at *;unfold DN;exact zH8
  ·obtain⟨x,rfl⟩:=jK n;rcases iK x with⟨i,rfl⟩ | ⟨B,Y⟩
   ·obtain⟨p,I⟩:∃p,W.pairs[i]?=some p:=⟨_,g_ (HL (.pair i) w9)⟩
    have Z:Hid (AH W S (.AZ C8) [.pair i]=⟨0,W,S.A1 p.2⟩):=cdrT W S i p I;obtain⟨g,a,u,y,_,J,_,O,P,k2⟩:=ZM A;simp only [Value.slice.injEq] at y;obtain⟨rfl,_,rfl⟩:=y;have C:=d.out;obtain⟨pv,qv,cv,lv,gv,qs,cs,hM,c⟩:=C;obtain⟨gp,D,rfl,aa,aj,d0,d1,d2,d3,d4,d5⟩:=yB c I;have c0:q.cell? ⟨wb,0,none⟩=some (.slice (some ⟨gp,0,none⟩) W.pairs.length D):=aA c.blk 0;have ab:=aB c.blk;have ak:(i:Int)<(W.pairs.length:Int):=by have:i<W.pairs.length:=(s_ I).1;omega
    have al:q.cell? ⟨g,a,none⟩=some (.string ⟨#[112,97,105,114]⟩):=O;have am:q.cell? ⟨g,a+1,none⟩=some (Q1 i):=P;have qA:∀(o:Obj)(b a:Nat),b<q.heap.size->(q.alloc o).cell? ⟨b,a,none⟩=q.cell? ⟨b,a,none⟩:=fun o b a hb=>(r_.alloc n_ o).cell (p:=⟨b,a,none⟩) hb;clear n I hM c O P k2;unfold C8;go_wp2_with fail
    go_region
    all_goals
     go_wp2_with fail
     go_region
     all_goals
      go_wp2_with fail
      refine(aT _ wb m M W S p.2 (d.later b_.drew.drew) (T.later d b_.drew.drew)).mono ?_;rintro e w2 ⟨rfl,G,K,Q⟩;have H1:Hid _:=G;have H2:Hid _:=K;have H3:Hid _:=Q;clear G K Q;go_wp2_with fail;go_ret;refine F9.pre f ?_;rw [Z.out];exact⟨rfl,M,H1,((Stp.AA b_.drew.drew).mx m).trans H3,fun _=>H2.out⟩
   ·obtain⟨g,a,u,y,_,J,_,O,P,k2⟩:=ZM A;simp only [Value.slice.injEq] at y;obtain⟨rfl,_,rfl⟩:=y;have an:(vK x !=[112,97,105,114])=true:=by rw [bne,Y];rfl
    have Z:Hid (AH W S (.AZ C8) [x]=⟨9,W,S⟩):=cdrN W S x B;clear n B;generalize vK x=kk at *;unfold C8;exact zH8
  ·obtain⟨x,rfl⟩:=jK n;obtain⟨g,a,u,y,_,J,_,O,P,k2⟩:=ZM A;simp only [Value.slice.injEq] at y;obtain⟨rfl,_,rfl⟩:=y;have C:=d.out;obtain⟨pv,qv,cv,lv,gv,qs,cs,hM,c⟩:=C;have bk:=c.out;have ab:=aB c.blk;have c5:q.cell? ⟨wb,5,none⟩=some (.string ⟨W.out.toArray⟩):=aA c.blk 5;have ap:Hid (bT x=.agg #[.string ⟨(vK x).toArray⟩,Q1 (vN x),.string ⟨(vS x).toArray⟩]):=rfl;have aq:Hid (Gs q M):=ah.mono (fun k hk=>.inl hk);have ae:Hid (BL W x):=HL.out x w9
   have ar:Hid (Pl.B7 x<=1000000000):=show _<=_ from by
    have G:=ae.out;have K:=HP.len
    cases x with
    | pair i=>simp only [Pl.B7];have:i<W.pairs.length:=G;omega
    | _=>simp [Pl.B7]
   clear n hM c;generalize vK x=kk at *;generalize vN x=nn at *;generalize vS x=ss at *;unfold A7;go_wp2_with fail;rw [<- ap.out];refine(lF HI wb M W HP 1000000000 n_ _ x [] d aq ae ar w9).mono ?_;rintro e L ⟨hB,r,rfl,F,af⟩;have au:Hid (r.length<=2000000000):=show _<=_ from by simp only [z_] at af;omega
   have HQ:Hid (Pl.cut r=Pl.cut (Pl.text W.pairs x)):=F.cut;have HB:Hid (Q3 q L):=hB;clear hB F af;go_wp2_with fail;refine(uE _ r (by have:=au.out;omega)).mono ?_;rintro e w' ⟨rfl,rfl⟩;rw [HQ.out];have aw:Hid ((Pl.cut (Pl.text W.pairs x)).length<=202):=Pl.FL _;have z:Hid (AH W S (.AZ A7) [x]=if W.out.length+(Pl.cut (Pl.text W.pairs x)).length<=1000 then⟨0,{W with out:=W.out++Pl.cut (Pl.text W.pairs x)},S.A1 .nothing⟩ else⟨11,W,S⟩):=rfl;have bo:=aw.out;have bp:L.cell? ⟨wb,5,none⟩=some (.string ⟨W.out.toArray⟩):=(HB.cell (p:=⟨wb,5,none⟩) ab).trans c5;have ac:Hid (RW L wb M W):=d.later HB;have ax:Hid (RS M L m S):=T.later d HB;generalize Pl.cut (Pl.text W.pairs x)=t at *;by_cases R:W.out.length+t.length<=1000
   ·rw [if_pos R] at z;have ay:decide ((1000:Int)<(W.out.length:Int)+(t.length:Int))=false:=by simp;omega
    obtain⟨az,ba,bb,bc,bd,be,bf,ad,E⟩:=ac.out;have f5:L.frozen? ⟨wb,5,none⟩=false:=aF E.blk 5;obtain⟨z1,z2⟩:=E.MP (W.out++t) r7;have bl:(⟨W.out.toArray⟩:Q8)++⟨t.toArray⟩=⟨(W.out++t).toArray⟩:=c7 _ _;have bg:Hid (RW (L.setCell ⟨wb,5,none⟩ (.string ⟨(W.out++t).toArray⟩)) wb M {W with out:=W.out++t}):=⟨az,ba,bb,bc,bd,be,bf,ad,z1⟩
    have ag:Hid (Stp M L M (L.setCell ⟨wb,5,none⟩ (.string ⟨(W.out++t).toArray⟩))):=by rw [ad];exact z2
    have bh:Hid (RS M (L.setCell ⟨wb,5,none⟩ (.string ⟨(W.out++t).toArray⟩)) m S):=ax.AQ ac ag;clear ad E z1 z2;go_wp2_with fail;refine(aT _ wb m M _ S .nothing bg bh).mono ?_;rintro e w2 ⟨rfl,G,K,Q⟩;have H1:Hid _:=G;have H2:Hid _:=K;have H3:Hid _:=Q;clear G K Q;go_wp2_with fail;go_ret;refine F9.pre f ?_;rw [z.out];exact⟨rfl,M,H1,((((Stp.AA HB).mx m).trans (ag.mx m))).trans H3,fun _=>H2.out⟩
   ·rw [if_neg R] at z;have ay:(1000:Int)<(W.out.length:Int)+(t.length:Int):=by omega
    go_wp2_with fail
    go_ret;refine F9.pre f ?_;rw [z.out];exact⟨rfl,M,ac,(Stp.AA HB).mx m,fun h=>by simp at h⟩
end
end Go.Proofs.YtbgghmjmcapmlaaGreatDoor
