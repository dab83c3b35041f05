import Derived.Test.YtbgghmjmcapmlaaGreatDoorF22
namespace Go.Proofs.YtbgghmjmcapmlaaGreatDoor
set_option maxHeartbeats 4000000
set_option maxRecDepth 100000
open Go.Proofs.Tryz
open Pl (AD C4 CV)
theorem zJ3{P:Prop}(h:P:=by
 rintro e F ⟨a,c⟩;have d:=h_ a;rcases c with⟨f,G,i,rfl,m⟩ | ⟨i,rfl⟩
 ·have j:=h_ (l.trans i);have u:=h_ m;clear a i m;go_wp2_with fail;go_ret;exact⟨d,.inl ⟨_,_,j,rfl,u⟩⟩
 ·have j:=h_ (l.trans i);clear a i;go_wp2_with fail;go_ret;exact⟨d,.inr ⟨j,rfl⟩⟩):P:=h
theorem zJ4{P:Prop}(h:P:=by go_wp2_with fail;go_ret2;exact⟨none,zO1,r,fun u=>by rw [q.out] at u;cases u⟩):P:=h
theorem zJ5{P:Prop}(h:P:=by
 go_roundw
 case rel=>exact⟨k+1,x8,k7,r,K⟩
 case measure=>simp [intOf];omega):P:=h
section
open Go.RowKit
theorem rf_top(n:Nat)(E:n+1<=1000)(ok:Q5)(w:World)(v:Value)(t:Tr)(h:AJ ok (n+1) w v t)(B:dF (n+1) t) :Q2 25 #[v] w fun e V=>C5 w (Pl.BZ n t) e V:=by
 have C:=h_ h;have p:=h_ B;clear B;by_cases q:∃K,t=.agg K
 ·obtain⟨K,rfl⟩:=q
  cases K with
  | nil =>
   have l:Hid (Pl.BZ n (.agg [])=AD (n+1) (.agg [])):=rfl;obtain⟨b,P,vs,rfl,Q,D,L,W,R,_⟩:=h.list;have X:w.cell? ⟨b,0,none⟩=some (.string ⟨#[108,105,115,116]⟩):=D;obtain⟨ao,M,rfl,_⟩:=W;rw [R] at L;simp only [z_] at L;clear D R h;go_enter func25,ntmps25;go_wp2_with fail;refine(gP (n+1) E ok _ _ _ C p).mono ?_;exact zJ3
  | cons k r =>
   obtain⟨b,g,Y,M,u0,us,rfl,Q,D,L,S,hg,c0,_,_,H,_,_⟩:=h.cons;have T:(0:Int)<(r.length:Int)+1:=by omega
   obtain⟨N,rfl,Z,o,A⟩:=H.EB;by_cases y:∃s,k=.lit (.string s)
   ·obtain⟨s,rfl⟩:=y;have O:w.cell? ⟨N,0,none⟩=some (.string ⟨#[110,97,109,101]⟩):=o;have aa:w.cell? ⟨N,2,none⟩=some (.string ⟨s.toArray⟩):=A;clear o A h H;by_cases I:s=[100,101,102,105,110,101]
    ·subst I;have l:Hid (Pl.BZ n (.agg (.lit (.string [100,101,102,105,110,101])::r))=Pl.E6 .define (AD n) r):=rfl;go_enter func25,ntmps25;go_wp2_with fail;refine(iY n (gP n x8) .define (.inr rfl) ok _ _ r C (fun x hx=>p.2 x (List.mem_cons_of_mem _ hx))).mono ?_;exact zJ3
    ·have l:Hid (Pl.BZ n (.agg (.lit (.string s)::r))=AD (n+1) (.agg (.lit (.string s)::r))):=by
      show Pl.BZ _ _=_;unfold Pl.BZ;dsimp only;rw [if_neg (show ¬s=Pl.CK from I)]
     have ed:(s==[100,101,102,105,110,101])=false:=by simpa using I
     clear I;go_enter func25,ntmps25;go_wp2_with fail;refine(gP (n+1) E ok _ _ _ C p).mono ?_;exact zJ3
   ·have l:Hid (Pl.BZ n (.agg (k::r))=AD (n+1) (.agg (k::r))):=by
     show Pl.BZ _ _=_;unfold Pl.BZ;split
     ·rename_i h0 e;simp only [DataW.agg.injEq,List.cons.injEq] at e;exact absurd ⟨_,e.1⟩ y
     ·rfl
    have z:∃J:Q7,w.cell? ⟨N,0,none⟩=some (.string ⟨J.toArray⟩)/\(J==[110,97,109,101])=false:=by
     rcases H.kinds with⟨_,_,rfl⟩ | ⟨_,rfl⟩ | ⟨s,rfl⟩ | ⟨_,rfl⟩
     ·exact⟨[110,117,109,98,101,114],o,w8⟩
     ·exact⟨[116,114,117,116,104],o,w8⟩
     ·exact absurd ⟨s,rfl⟩ y
     ·exact⟨[108,105,115,116],o,w8⟩
    obtain⟨J,O,U⟩:=z;clear o A y h H;go_enter func25,ntmps25;go_wp2_with fail;refine(gP (n+1) E ok _ _ _ C p).mono ?_;exact zJ3
 ·have l:Hid (Pl.BZ n t=AD (n+1) t):=by
   show Pl.BZ _ _=_;unfold Pl.BZ;split
   ·exact absurd ⟨_,rfl⟩ q
   ·rfl
  obtain⟨J,z,ab⟩:=h.KQ q;obtain⟨b,rfl,Q,D,cs⟩:=h.EB;rw [z] at D;clear z q h cs;go_enter func25,ntmps25;go_wp2_with fail;refine(gP (n+1) E ok _ _ _ C p).mono ?_;exact zJ3
def ReadQ(w:World)(bs:Q7)(e:Ending)(w':World):Prop:=∃po,e=.returned (.tuple #[.pointer po,Q1 (Pl.check bs:Int)])/\Q3 w w' /\
 (Pl.check bs=0->∃f b m,Pl.BQ bs=some f/\po=some ⟨b,0,none⟩/\AX false m w' w.heap.size w'.heap.size (Q0 b) f)
theorem kN(n:Nat)(t:Tr):(Pl.BZ n t).isSome=Pl.GY n t:=by
 have b:(fun x=>(AD n x).isSome)=C4 n:=funext (Pl.DJ n);unfold Pl.BZ;split
 ·rename_i h r;show _=if h=Pl.CK then Pl.OI (C4 n) r else C4 (n+1) _;split
  ·rw [Pl.JZ,b]
  ·exact Pl.DJ _ _
 ·rename_i a;rw [Pl.DJ];unfold Pl.GY;split
  ·rename_i h r;exact absurd rfl (a h r)
  ·rfl
theorem W4(n:Nat)(m:∀l p,Pl.pd n l=some p->p.gr=false->(∀t∈l,t.length<=300)->l.length<=900->dF n p.t):∀(k:Nat)(l:List Pl.Tok)(p:Pl.PL),Pl.IG (Pl.pd n) k l=some p->p.gr=false->(∀t∈l,t.length<=300)->l.length<=900->(p.ts.length+p.q.length+1<=l.length/\∀x∈p.ts,dF n x):=by
 intro k
 induction k with
 | zero=>intro l p h;simp [Pl.IG] at h
 | succ k b =>
  intro l p h c f o
  cases l with
  | nil=>simp [Pl.IG] at h
  | cons t r =>
   rw [Pl.I9] at h;split at h
   ·obtain rfl:=i_ h;simp
   ·cases a:Pl.pd n (t::r) with
    | none=>rw [a] at h;simp at h
    | some g =>
     rw [a] at h;dsimp only at h;have i:=Pl.DA _ _ _ a
     cases d:Pl.IG (Pl.pd n) k g.q with
     | none=>rw [d] at h;simp at h
     | some v =>
      rw [d] at h;simp only [Option.map_some,o_] at h;subst h;simp only [Bool.or_eq_false_iff] at c;have q:g.q.length<(t::r).length:=i.2;have s:=m _ _ a c.1 f o;have j:=b _ _ d c.2 (fun y u=>f y (i.1.mem u)) x8;refine⟨?_,fun x e=>?_⟩
      ·have:=j.1;simp only [c_] at q ⊢;omega
      ·rcases List.mem_cons.1 e with rfl | e
       ·exact s
       ·exact j.2 x e
theorem uL:∀(n:Nat)(l:List Pl.Tok)(p:Pl.PR),Pl.pd n l=some p->p.gr=false->(∀t∈l,t.length<=300)->l.length<=900->dF n p.t
 | 0,_,_,h,_,_,_=>by simp [Pl.pd] at h
 | n+1,[],_,h,_,_,_=>by simp [Pl.pd] at h
 | n+1,t::r,p,h,c,d,e=>by
  have i:=(Pl.NP _ _ _ h).CG c d;unfold Pl.pd at h;split at h
  ·simp at h
  split at h
  ·obtain rfl:=i_ h;trivial
  split at h
  ·obtain rfl:=i_ h;trivial
  split at h
  ·simp only [Option.map_eq_some_iff] at h;obtain⟨b,a,rfl⟩:=h;have o:=uL n r b a c (fun y f=>d y (List.mem_cons_of_mem _ f)) (by simp at e;omega)
   cases n with
   | zero=>simp [Pl.pd] at a
   | succ m =>
    refine⟨w9,fun x g=>?_⟩;rcases List.mem_cons.1 g with rfl | g
    ·show Pl.CB.length<=300;decide
    ·obtain rfl:x=b.t:=by simpa using g
     exact o
  split at h
  ·simp only [Option.map_eq_some_iff] at h;obtain⟨b,a,rfl⟩:=h;have o:=W4 n (fun l p=>uL n l p) _ _ _ a c (fun y f=>d y (List.mem_cons_of_mem _ f)) (by simp at e;omega);exact⟨by have:=o.1;simp at e;omega,o.2⟩
  ·simp only [Option.map_eq_some_iff] at h;obtain⟨b,a,rfl⟩:=h;unfold Pl.pw at a;split at a
   ·obtain rfl:=i_ a;exact i
   ·split at a
    ·obtain rfl:=i_ a;exact i
    ·simp at a
theorem rf_read(s:Q8)(w:World)(aq:s.size<=maxLen):Q2 12 #[.string s] w fun e w'=>ReadQ w s.data.toList e w':=by
 unfold maxLen at aq;by_cases hs:300<s.size
 ·have q:Hid (Pl.check s.data.toList=1):=show Pl.check _=1 from by unfold Pl.check;rw [if_pos (by simpa using hs)]
  go_enter func12,ntmps12
  go_wp2_with fail
  go_ret2;exact⟨none,zO1,r_,fun u=>by rw [q.out] at u;cases u⟩
 ·have W:¬300<s.data.toList.length:=by simpa using hs
  have ar:decide ((300:Int)<(s.size:Int))=false:=by simp;omega
  go_enter func12,ntmps12
  go_wp2_with fail
  refine(rT s _ x8).mono ?_;rintro e w1 ⟨v,bo,rfl,X,n⟩;have Y:=h_ X;have S:=X.size;clear X;rcases n with⟨A,rfl⟩ | ⟨l,A,rfl,F⟩
  ·have q:Hid (Pl.check s.data.toList=2):=show Pl.check _=2 from by unfold Pl.check;rw [if_neg W,A]
   clear A;go_wp2_with fail;go_ret2;exact⟨none,zO1,Y,fun u=>by rw [q.out] at u;cases u⟩
  ·have HC:Hid (Pl.check s.data.toList=if l.all Pl.BF=false then 2 else match Pl.pd l.length l with
     | none=>2
     | some p=>if p.q≠[] then 2 else if 20<p.dp then 3 else if p.gr=true then 4 else if Pl.GY (l.length-1) p.t=true then 0 else 5):=show Pl.check _=_ from by
    unfold Pl.check;rw [if_neg W,A];rfl
   have Q:=(Pl.HY A)
   have bh:l.length<=300:=by have:=Q.1;omega
   have Z:Hid (∀t∈l,0<t.length/\t.length<=300):=fun t h=>⟨(Q.2 t h).1,by have:=(Q.2 t h).2;omega⟩
   have au:=h_ A;clear Q A W;have T:Hid (DR w1 v l):=⟨F.1,F.2.imp id (fun⟨g,G,av,a,b,c⟩=>⟨g,G,av,a,Nat.zero_le _,c⟩)⟩
   obtain⟨ao,G,rfl,be,H⟩:=dM T;have ad:=h_ H;clear H F;go_wp2_with fail
   go_loopw [6] (fun i wr=>∃k:Nat,k<=l.length/\i=.int .i64 k/\Hid (Q3 w1 wr)/\Hid ((l.take k).all Pl.BF=true)) (fun i _=>l.length-(intOf i).toNat)
   case atStart=>exact⟨0,Nat.zero_le _,rfl,r_,zQ6⟩
   case round =>
    obtain⟨k,hk,rfl,HB,HG⟩:=hrel;by_cases ae:k<l.length
    ·obtain⟨t,A⟩:∃t,l[k]?=some t:=⟨l[k],g_ ae⟩
     obtain⟨g,rfl,hc⟩:=ad.out k t A;have C:=Z.out t (q_ A);have af:g<w1.heap.size:=World.block_lt_of_cell? _ _ hc;have I:wr.cell? ⟨g,k,none⟩=some (.string ⟨t.toArray⟩):=(HB.cell (p:=⟨g,k,none⟩) af).trans hc;have J:∀o:Obj,(wr.alloc o).cell? ⟨g,k,none⟩=some (.string ⟨t.toArray⟩):=fun o=>((HB.alloc HB.size o).cell (p:=⟨g,k,none⟩) af).trans hc;have HX:=h_ A;have bg:(k:Int)<(l.length:Int):=by omega
     obtain⟨E,z⟩:∃E:Q8,E=⟨t.toArray⟩:=⟨_,rfl⟩
     have y:0<E.size:=by rw [z];show 0<t.toArray.size;simpa using C.1
     have ag:E.data.toList=t:=by rw [z]
     rw [<- z] at I J;have HD:=h_ ag;have ah:E.size<=1000:=by rw [z];show t.toArray.size<=1000;have:=C.2;simp;omega
     clear A hc z ag;go_wp2_with (go_at_call 22;refine(aZ (E[0]'y) _).mono ?_;rintro e w' ⟨rfl,rfl⟩);refine(qG wr.heap.size E _ (.slice none 0 0) 0 0 false (show Rd _ _ _ _ _ _ from heap_alloc_new _ _) ah).mono ?_;rintro e w2 ⟨v2,g2,rfl,d,B,n⟩;have r:Hid (Q3 w1 w2):=HB.trans ((iB rfl d).mono HB.size)
     have D:t.headD 0=E[0]'y:=by
      have P:0<E.data.toList.length:=by simpa using y
      rw [<- HD.out,Pl.K3 _ P,bE E 0 y]
     rw [HD.out] at n;rcases n with⟨P,_,h3⟩ | ⟨P,h2,_,h3⟩ | ⟨P,h2,rfl⟩
     ·have K:Hid ((l.take (k+1)).all Pl.BF=true):=dK HG HX (by simp [Pl.BF,P]);obtain⟨bv,rfl⟩:=h3.ptr;clear d B P h3 D I J C;go_wp2_with fail
      all_goals
       exact zJ5
     ·have K:Hid ((l.take (k+1)).all Pl.BF=true):=dK HG HX (by simp [Pl.BF,h2]);obtain⟨bv,rfl⟩:=h3.ptr;clear d B P h2 h3 D I J C;go_wp2_with fail
      all_goals
       exact zJ5
     ·by_cases hw:CV (E[0]'y)=true
      ·have U:l.all Pl.BF=false:=by
        rw [List.all_eq_false];exact⟨t,q_ HX,by simp only [Pl.BF,P,h2,D,hw];decide⟩
       have q:Hid (Pl.check s.data.toList=2):=show Pl.check _=2 from by rw [HC.out,if_pos U]
       clear d B P h2 D I J C U;go_wp2_with fail;go_ret2;exact⟨none,zO1,Y.trans (r.mono S),fun u=>by rw [q.out] at u;cases u⟩
      ·have aw:CV (E[0]'y)=false:=by simpa using hw
       have K:Hid ((l.take (k+1)).all Pl.BF=true):=dK HG HX (by simp only [Pl.BF,D,aw];rfl);clear d B P h2 D I J C hw;go_wp2_with fail
       exact zJ5
    ·have ax:k=l.length:=by omega
     subst ax;have L:¬l.all Pl.BF=false:=by have:=HG.out;rw [List.take_length] at this;simp [this]
     have aa:Hid (Pl.check s.data.toList=match Pl.pd l.length l with
       | none=>2
       | some p=>if p.q≠[] then 2 else if 20<p.dp then 3 else if p.gr=true then 4 else if Pl.GY (l.length-1) p.t=true then 0 else 5):=show Pl.check _=_ from by rw [HC.out,if_neg L]
     have ay:Hid (DR wr (.slice ao l.length G) l):=T.kept (aQ none HB) (by cases hv:Value.ownBlock (.slice ao l.length G)<;>simp);have ai:=h_ (Y.trans (HB.mono S));have aj:=ai.size;clear L HC hk ae HG ad;go_wp2_with fail;refine(jA l.length _ wr.heap.size (.slice ao l.length G) l l 0 0 false (show Rd _ _ _ _ _ _ from(heap_alloc_new _ _).trans (by simp [TR])) (World.ownsRow.alloc ay _) (List.suffix_refl _) n_ x8 x8 n_ (fun t A=>by have:=(Z t A).2;omega) 0 rfl).mono ?_;rintro e w2 ⟨d,x⟩;have r:Hid (Q3 w w2):=ai.trans ((iB rfl d).mono aj)
     cases R:Pl.pd l.length l with
     | none =>
      rw [R] at x;dsimp only at x;subst x;have q:Hid (Pl.check s.data.toList=2):=show Pl.check _=2 from by rw [aa.out,R]
      clear R d;exact zJ4
     | some p =>
      rw [R] at x;obtain⟨v2,rfl,M,B⟩:=x;have j:Hid (Pl.check s.data.toList=if p.q≠[] then 2 else if 20<p.dp then 3 else if p.gr=true then 4 else if Pl.GY (l.length-1) p.t=true then 0 else 5):=show Pl.check _=_ from by rw [aa.out,R]
      have N:=uK R;have ak:Hid (Pl.BQ s.data.toList=Pl.BZ (l.length-1) p.t):=show Pl.BQ _=_ from by unfold Pl.BQ;rw [au.out];dsimp only;rw [R]
      have az:Hid (p.gr=false->dF l.length p.t):=fun hg=>uL _ _ _ R hg (fun t A=>(Z t A).2) x8;have al:Hid (AJ (fun _=>True) l.length w2 v2 p.t):=AJ.mono (fun _ _ _=>trivial) _ _ _ M;obtain⟨bv,rfl⟩:=M.ptr;obtain⟨_,c1,c2,c3⟩:=B.cells;clear R d M B aa;by_cases hq:p.q=[]
      ·rw [hq] at c1;simp only [z_,Nat.sub_zero] at c1;simp only [Nat.zero_add,Nat.zero_max] at c2;simp only [Bool.false_or] at c3;rw [if_neg (by simp [hq])] at j;have ba:decide ((l.length:Int)<(l.length:Int))=false:=by simp
       clear hq;by_cases V:20<p.dp
       ·have q:Hid (Pl.check s.data.toList=3):=show Pl.check _=3 from by rw [j.out,if_pos V]
        clear j N;exact zJ4
       ·rw [if_neg V] at j;by_cases d:p.gr=true
        ·have q:Hid (Pl.check s.data.toList=4):=show Pl.check _=4 from by rw [j.out,if_pos d]
         clear j N;exact zJ4
        ·rw [if_neg d] at j;have am:p.gr=false:=by simpa using d
         obtain⟨m,hm⟩:=N;have ab:Hid (AJ (fun _=>True) (m+1) w2 (Q0 bv) p.t):=by rw [<- hm];exact al
         rw [show l.length-1=m from by omega] at j;have bb:Hid (Pl.BQ s.data.toList=Pl.BZ m p.t):=by rw [show m=l.length-1 from by omega];exact ak
         have an:Hid (m+1<=1000/\dF (m+1) p.t):=by rw [<- hm];exact⟨x8,az am⟩
         clear d hm;go_wp2_with fail;refine(rf_top m an.1 _ _ _ p.t ab an.2).mono ?_;rintro e w5 ⟨ac,n⟩;have ap:=h_ (r.trans (ac.mono r.size));rcases n with⟨f,bf,hf,rfl,m5,O⟩ | ⟨hf,rfl⟩
         ·have q:Hid (Pl.check s.data.toList=0):=show Pl.check _=0 from by rw [j.out,if_pos (by rw [<- kN,hf];rfl)]
          have bc:=h_ (bb.trans hf);have bd:Hid (AX false m5 w5 w.heap.size w5.heap.size (Q0 bf) f):=O.wide r.size n_;clear ac hf j O;go_wp2_with fail;go_ret2;exact⟨_,zO1,ap,fun _=>⟨f,bf,m5,bc,rfl,bd⟩⟩
         ·have q:Hid (Pl.check s.data.toList=5):=show Pl.check _=5 from by rw [j.out,if_neg (by rw [<- kN,hf];simp)]
          clear ac hf j;go_wp2_with fail;go_ret2;exact⟨none,zO1,ap,fun u=>by rw [q.out] at u;cases u⟩
      ·have bi:0<p.q.length:=List.length_pos_iff.2 hq;have q:Hid (Pl.check s.data.toList=2):=show Pl.check _=2 from by rw [j.out,if_pos hq]
       have ba:((l.length-p.q.length:Nat):Int)<(l.length:Int):=by obtain⟨m,hm⟩:=N;omega
       clear hq j N;exact zJ4
end
end Go.Proofs.YtbgghmjmcapmlaaGreatDoor
