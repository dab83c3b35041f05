import Derived.Test.YtkgbdddkcjpgfaaGreatDoorT16
namespace Go.Proofs.YtkgbdddkcjpgfaaGreatDoor
set_option maxHeartbeats 4000000
set_option maxRecDepth 100000
open Go.Proofs.Tryz
open Pl (PF AD C4 BN EE CV isName)
section
open Go.RowKit
theorem lC(n:Nat)(K:n+1<=1000)(E:EL n)(ok:Nat->Prop)(w:World)(v:Value)(r:List Tr)(h:AJ ok (n+1) w v (.agg (.lit (.string [113,117,111,116,101])::r)))(t:Hid (cL (n+1) (.agg (.lit (.string [113,117,111,116,101])::r))))(k:∀x∈r,dF n x) :Calls prog 122 #[v] w fun e L=>C5 w (AD (n+1) (.agg (.lit (.string [113,117,111,116,101])::r))) e L:=by
 have F:Hid (AD (n+1) (.agg (.lit (.string [113,117,111,116,101])::r))=if r.length==1 then some (BN .const [] (.agg (.lit (.string [113,117,111,116,101])::r)) [] []) else none):=d9 n _ r (by decide);have u:=h_ h;have X:=h_ E;have l:((.lit (.string [113,117,111,116,101]))::r).length<=1000:=h.short;simp only [c_] at l;obtain⟨b,g,M,N,Y,Z,rfl,hb,ck,c3,G,hg,c0,H,m,y,I,o⟩:=h.cons;have HS:=h_ H;have HA:=h_ I;have O:=h_ o;have HL:=h_ m;obtain⟨J,rfl,P,p,q⟩:=y.EB;have R0:=h_ y;have Q:=h_ k;clear h E k H I o m y;have R:w.cell? ⟨J,0,none⟩=some (.string ⟨#[110,97,109,101]⟩):=p;have S:w.cell? ⟨J,2,none⟩=some (.string ⟨([113,117,111,116,101]).toArray⟩):=q;clear p q;by_cases s:r.length=1
 ·have z:((r.length:Int)+1==2)=true:=by simp;omega
  have A:Hid (AD (n+1) (.agg (.lit (.string [113,117,111,116,101])::r))=some (BN .const [] (.agg (.lit (.string [113,117,111,116,101])::r)) [] [])):=F.trans (if_pos (by simpa using s));have B:Hid (uG (.agg (.lit (.string [113,117,111,116,101])::r))):=by show List.length (_::r)=2;simp [s]
  clear s;have T:isName (.agg ((.lit (.string [113,117,111,116,101]))::r))=false:=rfl;have C:((r.length:Int)+1==0)=false:=by simp;omega
  go_enter func122,ntmps122
  go_wp2_with fail
  refine(aV ok (n+1) _ _ _ u).mono ?_;rintro e U ⟨rfl,a⟩;obtain⟨D,_⟩:=bP a;have d:=h_ a;have f:=a.size;clear a;go_wp2_with fail;refine(aR [113,117,111,116,101] _).mono ?_;rintro e V ⟨rfl,i⟩;have c:=h_ (d.trans (i.mono f));obtain⟨W,_⟩:=bP c;have j:=c.size;rw [show EE [113,117,111,116,101]=true from by first | assumption | decide];clear i D d f;go_wp2_with fail;go_ret;exact⟨c.alloc j _,.inl ⟨_,_,A,rfl,1,iZ K u t B c j rfl rfl⟩⟩
 ·have z:((r.length:Int)+1==2)=false:=by simp;omega
  have A:Hid (AD (n+1) (.agg (.lit (.string [113,117,111,116,101])::r))=none):=F.trans (if_neg (by simpa using s));clear s;have T:isName (.agg ((.lit (.string [113,117,111,116,101]))::r))=false:=rfl;have C:((r.length:Int)+1==0)=false:=by simp;omega
  go_enter func122,ntmps122
  go_wp2_with fail
  refine(aV ok (n+1) _ _ _ u).mono ?_;rintro e U ⟨rfl,a⟩;obtain⟨D,_⟩:=bP a;have d:=h_ a;have f:=a.size;clear a;go_wp2_with fail;refine(aR [113,117,111,116,101] _).mono ?_;rintro e V ⟨rfl,i⟩;have c:=h_ (d.trans (i.mono f));obtain⟨W,_⟩:=bP c;have j:=c.size;rw [show EE [113,117,111,116,101]=true from by first | assumption | decide];clear i D d f;go_wp2_with fail;go_ret;exact⟨c,.inr ⟨A,rfl⟩⟩
theorem kD(n:Nat)(s:EL n)(ok:Nat->Prop)(w:World)(v:Value)(r:List Tr)(h:AJ ok (n+1) w v (.agg (.lit (.string [100,101,102,105,110,101])::r)))(d:∀x∈r,dF n x) :Calls prog 122 #[v] w fun e B=>C5 w (AD (n+1) (.agg (.lit (.string [100,101,102,105,110,101])::r))) e B:=by
 have C:Hid (AD (n+1) (.agg (.lit (.string [100,101,102,105,110,101])::r))=none):=(d9 n _ r (by decide)).trans rfl;have D:=h_ h;have N:=h_ s;have f:((.lit (.string [100,101,102,105,110,101]))::r).length<=1000:=h.short;simp only [c_] at f;obtain⟨b,g,E,F,O,P,rfl,Q,R,S,t,T,U,u,i,q,y,j⟩:=h.cons;have V:=h_ u;have W:=h_ y;have G:=h_ j;have X:=h_ i;obtain⟨z,rfl,H,k,l⟩:=q.EB;have Y:=h_ q;have I:=h_ d;clear h s d u y j i q;have J:w.cell? ⟨z,0,none⟩=some (.string ⟨#[110,97,109,101]⟩):=k;have K:w.cell? ⟨z,2,none⟩=some (.string ⟨([100,101,102,105,110,101]).toArray⟩):=l;clear k l;have Z:isName (.agg ((.lit (.string [100,101,102,105,110,101]))::r))=false:=rfl;have L:((r.length:Int)+1==0)=false:=by simp;omega
 go_enter func122,ntmps122
 go_wp2_with fail
 refine(aV ok (n+1) _ _ _ D).mono ?_;rintro e w1 ⟨rfl,a⟩;obtain⟨M,_⟩:=bP a;have m:=h_ a;have o:=a.size;clear a;go_wp2_with fail;refine(aR [100,101,102,105,110,101] _).mono ?_;rintro e w2 ⟨rfl,p⟩;have c:=h_ (m.trans (p.mono o));obtain⟨q2,_⟩:=bP c;have A:=c.size;rw [show EE [100,101,102,105,110,101]=true from by first | assumption | decide];clear p M m o;go_wp2_with fail;go_ret;exact⟨c,.inr ⟨C,rfl⟩⟩
theorem oN(n:Nat)(E:EL n)(ok:Nat->Prop)(w:World)(v:Value)(r:List Tr)(h:AJ ok (n+1) w v (.agg (.lit (.string [115,101,116,33])::r)))(l:∀x∈r,dF n x) :Calls prog 122 #[v] w fun e N=>C5 w (AD (n+1) (.agg (.lit (.string [115,101,116,33])::r))) e N:=by
 have F:Hid (AD (n+1) (.agg (.lit (.string [115,101,116,33])::r))=Pl.E6 .set (AD n) r):=(d9 n _ r (by decide)).trans rfl;have G:=h_ h;have O:=h_ E;have m:((.lit (.string [115,101,116,33]))::r).length<=1000:=h.short;simp only [c_] at m;obtain⟨b,g,P,Q,Y,Z,rfl,hb,ck,c3,H,hg,c0,I,o,A,J,p⟩:=h.cons;have HS:=h_ I;have HA:=h_ J;have R:=h_ p;have HL:=h_ o;obtain⟨K,rfl,S,q,s⟩:=A.EB;have R0:=h_ A;have B:=h_ l;clear h E l I J p o A;have T:w.cell? ⟨K,0,none⟩=some (.string ⟨#[110,97,109,101]⟩):=q;have U:w.cell? ⟨K,2,none⟩=some (.string ⟨([115,101,116,33]).toArray⟩):=s;clear q s;have e1:isName (.agg ((.lit (.string [115,101,116,33]))::r))=false:=rfl;have V:((r.length:Int)+1==0)=false:=by simp;omega
 go_enter func122,ntmps122
 go_wp2_with fail
 refine(aV ok (n+1) _ _ _ G).mono ?_;rintro e w1 ⟨rfl,d⟩;obtain⟨W,_⟩:=bP d;have t:=h_ d;have u:=d.size;clear d;go_wp2_with fail;refine(aR [115,101,116,33] _).mono ?_;rintro e w2 ⟨rfl,y⟩;have a:=h_ (t.trans (y.mono u));obtain⟨q2,_⟩:=bP a;have c:=a.size;rw [show EE [115,101,116,33]=true from by first | assumption | decide];clear y W t u;go_wp2_with fail;refine(iY n O .set (.inl rfl) ok _ _ r (G.later a) B).mono ?_;rintro e L ⟨i,⟨f,X,z,rfl,M,j⟩ | ⟨z,rfl⟩⟩
 ·have k:=h_ (a.trans (i.mono c));have C:=h_ (F.trans z);have D:Hid (AX false M L w.heap.size L.heap.size (.pointer (some ⟨X,0,none⟩)) f):=j.wide c n_;clear i z j;go_wp2_with fail;go_ret;exact⟨k,.inl ⟨_,_,C,rfl,M,D⟩⟩
 ·have k:=h_ (a.trans (i.mono c));have C:=h_ (F.trans z);clear i z;go_wp2_with fail;go_ret;exact⟨k,.inr ⟨C,rfl⟩⟩
theorem rQ(n:Nat)(hF:EL n)(ok:Nat->Prop)(w:World)(v:Value)(r:List Tr)(h:AJ ok (n+1) w v (.agg (.lit (.string [105,102])::r)))(K:∀x∈r,dF n x) :Calls prog 122 #[v] w fun e w'=>C5 w (AD (n+1) (.agg (.lit (.string [105,102])::r))) e w':=by
 have F:Hid (AD (n+1) (.agg (.lit (.string [105,102])::r))=if(r.length==3) then(Pl.B1 (AD n) r).map fun l=>BN .iff [] .nil l [] else none):=(d9 n _ r (by decide)).trans rfl;have HR:=h_ h;have R:=h_ hF;have L:((.lit (.string [105,102]))::r).length<=1000:=h.short;simp only [c_] at L;obtain⟨b,g,ab,ac,u0,S,rfl,hb,ck,c3,aa,hg,c0,hS,M,V,hA,N⟩:=h.cons;have T:=h_ hS;have HA:=h_ hA;have A:=h_ N;have U:=h_ M;obtain⟨b0,rfl,ad,O,P⟩:=V.EB;have R0:=h_ V;have B:=h_ K;clear h hF K hS hA N M V;have ae:w.cell? ⟨b0,0,none⟩=some (.string ⟨#[110,97,109,101]⟩):=O;have af:w.cell? ⟨b0,2,none⟩=some (.string ⟨([105,102]).toArray⟩):=P;clear O P;by_cases j:(r.length==3)=true
 ·have W:((r.length:Int)+1==4)=true:=by simp at j;simp;omega
  have e1:isName (.agg ((.lit (.string [105,102]))::r))=false:=rfl;have X:((r.length:Int)+1==0)=false:=by simp;omega
  go_enter func122,ntmps122
  go_wp2_with fail
  refine(aV ok (n+1) _ _ _ HR).mono ?_;rintro e w1 ⟨rfl,p⟩;obtain⟨Y,_⟩:=bP p;have t:=h_ p;have u:=p.size;clear p;go_wp2_with fail;refine(aR [105,102] _).mono ?_;rintro e w2 ⟨rfl,y⟩;have f:=h_ (t.trans (y.mono u));obtain⟨q2,_⟩:=bP f;have o:=f.size;rw [show EE [105,102]=true from by first | assumption | decide];clear y Y t u;go_wp2_with fail
  ·refine(cI n R _ _ S r ((T.tail r.length U _ _ (by omega) (by intro Z;first | rfl | (exfalso;omega))).later f) (A.later f) (by omega) B).mono ?_;rintro e C ⟨i,k⟩;have m:=h_ (f.trans (i.mono o));have q:=m.size;rcases k with⟨G,D,Q,d,rfl,a,_,_,H,c⟩ | ⟨d,D,rfl⟩
   ·have s:Hid (AD (n+1) (.agg (.lit (.string [105,102])::r))=some (BN .iff [] .nil G [])):=F.trans (by rw [d,if_pos (by assumption)];rfl);have I:Q.length=r.length:=by have:=a.1;omega
    have HU:=(show Hid (∀E,E=Obj.cells #[AM (FW .iff),AM [],.pointer none,D,.slice none 0 0,AM [],.int .i64 0,AM []] G3 (0,0)->AX false (H+1) (C.alloc E) w.heap.size (C.alloc E).heap.size (.pointer (some ⟨C.heap.size,0,none⟩)) (BN .iff [] .nil G [])) from fun E ho=>fS o i.size a c (by simp) (by show _=3;have:=c.1;have:=a.1;simp at j;omega) (by have:=c.1;have:=a.1;omega) ho)
    obtain⟨J,z,rfl,_⟩:=bC a;clear i d a j c;go_wp2_with fail;go_ret;exact⟨m.alloc q _,.inl ⟨_,_,s,rfl,H+1,HU _ (by rw [I];rfl)⟩⟩
   ·have s:Hid (AD (n+1) (.agg (.lit (.string [105,102])::r))=none):=F.trans (by rw [d];simp);clear i d j;go_wp2_with fail;go_ret;exact⟨m,.inr ⟨s,rfl⟩⟩
  ·refine(cI n R _ _ S r ((T.tail r.length U _ _ (by omega) (by intro Z;first | rfl | (exfalso;omega))).later f) (A.later f) (by omega) B).mono ?_;rintro e C ⟨i,k⟩;have m:=h_ (f.trans (i.mono o));have q:=m.size;rcases k with⟨G,D,Q,d,rfl,a,_,_,H,c⟩ | ⟨d,D,rfl⟩
   ·have s:Hid (AD (n+1) (.agg (.lit (.string [105,102])::r))=some (BN .iff [] .nil G [])):=F.trans (by rw [d,if_pos (by assumption)];rfl);have I:Q.length=r.length:=by have:=a.1;omega
    have HU:=(show Hid (∀E,E=Obj.cells #[AM (FW .iff),AM [],.pointer none,D,.slice none 0 0,AM [],.int .i64 0,AM []] G3 (0,0)->AX false (H+1) (C.alloc E) w.heap.size (C.alloc E).heap.size (.pointer (some ⟨C.heap.size,0,none⟩)) (BN .iff [] .nil G [])) from fun E ho=>fS o i.size a c (by simp) (by show _=3;have:=c.1;have:=a.1;simp at j;omega) (by have:=c.1;have:=a.1;omega) ho)
    obtain⟨J,z,rfl,_⟩:=bC a;clear i d a j c;go_wp2_with fail;go_ret;exact⟨m.alloc q _,.inl ⟨_,_,s,rfl,H+1,HU _ (by rw [I];rfl)⟩⟩
   ·have s:Hid (AD (n+1) (.agg (.lit (.string [105,102])::r))=none):=F.trans (by rw [d];simp);clear i d j;go_wp2_with fail;go_ret;exact⟨m,.inr ⟨s,rfl⟩⟩
 ·have j:(r.length==3)=false:=by simpa using j
  have W:((r.length:Int)+1==4)=false:=by simp at j;simp;omega
  have e1:isName (.agg ((.lit (.string [105,102]))::r))=false:=rfl;have X:((r.length:Int)+1==0)=false:=by simp;omega
  go_enter func122,ntmps122
  go_wp2_with fail
  refine(aV ok (n+1) _ _ _ HR).mono ?_;rintro e w1 ⟨rfl,p⟩;obtain⟨Y,_⟩:=bP p;have t:=h_ p;have u:=p.size;clear p;go_wp2_with fail;refine(aR [105,102] _).mono ?_;rintro e w2 ⟨rfl,y⟩;have f:=h_ (t.trans (y.mono u));obtain⟨q2,_⟩:=bP f;have o:=f.size;rw [show EE [105,102]=true from by first | assumption | decide];clear y Y t u;go_wp2_with fail
  ·refine(cI n R _ _ S r ((T.tail r.length U _ _ (by omega) (by intro Z;first | rfl | (exfalso;omega))).later f) (A.later f) (by omega) B).mono ?_;rintro e C ⟨i,k⟩;have m:=h_ (f.trans (i.mono o));have q:=m.size;rcases k with⟨G,D,Q,d,rfl,a,_,_,H,c⟩ | ⟨d,D,rfl⟩
   ·have s:Hid (AD (n+1) (.agg (.lit (.string [105,102])::r))=none):=F.trans (by rw [if_neg (by simp [j])]);obtain⟨J,z,rfl,_⟩:=bC a;clear i d a j c;go_wp2_with fail;go_ret;exact⟨m,.inr ⟨s,rfl⟩⟩
   ·have s:Hid (AD (n+1) (.agg (.lit (.string [105,102])::r))=none):=F.trans (by rw [d];simp);clear i d j;go_wp2_with fail;go_ret;exact⟨m,.inr ⟨s,rfl⟩⟩
  ·refine(cI n R _ _ S r ((T.tail r.length U _ _ (by omega) (by intro Z;first | rfl | (exfalso;omega))).later f) (A.later f) (by omega) B).mono ?_;rintro e C ⟨i,k⟩;have m:=h_ (f.trans (i.mono o));have q:=m.size;rcases k with⟨G,D,Q,d,rfl,a,_,_,H,c⟩ | ⟨d,D,rfl⟩
   ·have s:Hid (AD (n+1) (.agg (.lit (.string [105,102])::r))=none):=F.trans (by rw [if_neg (by simp [j])]);obtain⟨J,z,rfl,_⟩:=bC a;clear i d a j c;go_wp2_with fail;go_ret;exact⟨m,.inr ⟨s,rfl⟩⟩
   ·have s:Hid (AD (n+1) (.agg (.lit (.string [105,102])::r))=none):=F.trans (by rw [d];simp);clear i d j;go_wp2_with fail;go_ret;exact⟨m,.inr ⟨s,rfl⟩⟩
theorem lD(n:Nat)(Z:EL n)(ok:Nat->Prop)(w:World)(v:Value)(r:List Tr)(h:AJ ok (n+1) w v (.agg (.lit (.string [98,101,103,105,110])::r)))(E:∀x∈r,dF n x) :Calls prog 122 #[v] w fun e w'=>C5 w (AD (n+1) (.agg (.lit (.string [98,101,103,105,110])::r))) e w':=by
 have C:Hid (AD (n+1) (.agg (.lit (.string [98,101,103,105,110])::r))=if(!r.isEmpty) then(Pl.B1 (AD n) r).map fun l=>BN .begin [] .nil l [] else none):=(d9 n _ r (by decide)).trans rfl;have HR:=h_ h;have P:=h_ Z;have F:((.lit (.string [98,101,103,105,110]))::r).length<=1000:=h.short;simp only [c_] at F;obtain⟨b,g,ab,ac,u0,Q,rfl,hb,ck,c3,aa,hg,c0,hS,G,R,hA,H⟩:=h.cons;have S:=h_ hS;have HA:=h_ hA;have A:=h_ H;have T:=h_ G;obtain⟨b0,rfl,ad,I,J⟩:=R.EB;have R0:=h_ R;have B:=h_ E;clear h Z E hS hA H G R;have ae:w.cell? ⟨b0,0,none⟩=some (.string ⟨#[110,97,109,101]⟩):=I;have af:w.cell? ⟨b0,2,none⟩=some (.string ⟨([98,101,103,105,110]).toArray⟩):=J;clear I J;by_cases i:(!r.isEmpty)=true
 ·have U:(1:Int)<(r.length:Int)+1:=by cases r<;>simp at i⊢<;> omega
  have e1:isName (.agg ((.lit (.string [98,101,103,105,110]))::r))=false:=rfl;have V:((r.length:Int)+1==0)=false:=by simp;omega
  go_enter func122,ntmps122
  go_wp2_with fail
  refine(aV ok (n+1) _ _ _ HR).mono ?_;rintro e w1 ⟨rfl,o⟩;obtain⟨W,_⟩:=bP o;have q:=h_ o;have s:=o.size;clear o;go_wp2_with fail;refine(aR [98,101,103,105,110] _).mono ?_;rintro e w2 ⟨rfl,t⟩;have f:=h_ (q.trans (t.mono s));obtain⟨q2,_⟩:=bP f;have p:=f.size;rw [show EE [98,101,103,105,110]=true from by first | assumption | decide];clear t W q s;go_wp2_with fail;refine(cI n P _ _ Q r ((S.tail r.length T _ _ (by omega) (by intro hh;first | rfl | (exfalso;omega))).later f) (A.later f) (by omega) B).mono ?_;rintro e K ⟨j,k⟩;have m:=h_ (f.trans (j.mono p));have u:=m.size;rcases k with⟨M,D,X,d,rfl,a,_,_,N,c⟩ | ⟨d,D,rfl⟩
  ·have y:Hid (AD (n+1) (.agg (.lit (.string [98,101,103,105,110])::r))=some (BN .begin [] .nil M [])):=C.trans (by rw [d,if_pos (by assumption)];rfl);have Y:X.length=r.length:=by have:=a.1;omega
   have HU:=(show Hid (∀O,O=Obj.cells #[AM (FW .begin),AM [],.pointer none,D,.slice none 0 0,AM [],.int .i64 0,AM []] G3 (0,0)->AX false (N+1) (K.alloc O) w.heap.size (K.alloc O).heap.size (.pointer (some ⟨K.heap.size,0,none⟩)) (BN .begin [] .nil M [])) from fun O ho=>fS p j.size a c (by simp) (by show 1<=_;have:=c.1;have:=a.1;have:r.length≠0:=(by intro h0;have:=e_ h0;subst this;simp at i);omega) (by have:=c.1;have:=a.1;omega) ho)
   obtain⟨L,z,rfl,_⟩:=bC a;clear j d a i c;go_wp2_with fail;go_ret;exact⟨m.alloc u _,.inl ⟨_,_,y,rfl,N+1,HU _ (by rw [Y];rfl)⟩⟩
  ·have y:Hid (AD (n+1) (.agg (.lit (.string [98,101,103,105,110])::r))=none):=C.trans (by rw [d];simp);clear j d i;go_wp2_with fail;go_ret;exact⟨m,.inr ⟨y,rfl⟩⟩
 ·have i:(!r.isEmpty)=false:=by simpa using i
  have U:decide ((1:Int)<(r.length:Int)+1)=false:=by cases r<;>simp at i⊢<;> omega
  have e1:isName (.agg ((.lit (.string [98,101,103,105,110]))::r))=false:=rfl;have V:((r.length:Int)+1==0)=false:=by simp;omega
  go_enter func122,ntmps122
  go_wp2_with fail
  refine(aV ok (n+1) _ _ _ HR).mono ?_;rintro e w1 ⟨rfl,o⟩;obtain⟨W,_⟩:=bP o;have q:=h_ o;have s:=o.size;clear o;go_wp2_with fail;refine(aR [98,101,103,105,110] _).mono ?_;rintro e w2 ⟨rfl,t⟩;have f:=h_ (q.trans (t.mono s));obtain⟨q2,_⟩:=bP f;have p:=f.size;rw [show EE [98,101,103,105,110]=true from by first | assumption | decide];clear t W q s;go_wp2_with fail
  ·refine(cI n P _ _ Q r ((S.tail r.length T _ _ (by omega) (by intro hh;first | rfl | (exfalso;omega))).later f) (A.later f) (by omega) B).mono ?_;rintro e K ⟨j,k⟩;have m:=h_ (f.trans (j.mono p));have u:=m.size;rcases k with⟨M,D,X,d,rfl,a,_,_,N,c⟩ | ⟨d,D,rfl⟩
   ·have y:Hid (AD (n+1) (.agg (.lit (.string [98,101,103,105,110])::r))=none):=C.trans (by rw [if_neg (by simp [i])]);obtain⟨L,z,rfl,_⟩:=bC a;clear j d a i c;go_wp2_with fail;go_ret;exact⟨m,.inr ⟨y,rfl⟩⟩
   ·have y:Hid (AD (n+1) (.agg (.lit (.string [98,101,103,105,110])::r))=none):=C.trans (by rw [d];simp);clear j d i;go_wp2_with fail;go_ret;exact⟨m,.inr ⟨y,rfl⟩⟩
  ·refine(cI n P _ _ Q r ((S.tail r.length T _ _ (by omega) (by intro hh;first | rfl | (exfalso;omega))).later f) (A.later f) (by omega) B).mono ?_;rintro e K ⟨j,k⟩;have m:=h_ (f.trans (j.mono p));have u:=m.size;rcases k with⟨M,D,X,d,rfl,a,_,_,N,c⟩ | ⟨d,D,rfl⟩
   ·have y:Hid (AD (n+1) (.agg (.lit (.string [98,101,103,105,110])::r))=none):=C.trans (by rw [if_neg (by simp [i])]);obtain⟨L,z,rfl,_⟩:=bC a;clear j d a i c;go_wp2_with fail;go_ret;exact⟨m,.inr ⟨y,rfl⟩⟩
   ·have y:Hid (AD (n+1) (.agg (.lit (.string [98,101,103,105,110])::r))=none):=C.trans (by rw [d];simp);clear j d i;go_wp2_with fail;go_ret;exact⟨m,.inr ⟨y,rfl⟩⟩
theorem C5.one{w w':World}{o:Option PF}{e:Ending}(h:C5 w o e w'):∃a,e=.returned (.pointer a)/\Below w.heap.size w w'/\((∃f b,o=some f/\a=some ⟨b,0,none⟩/\∃m,AX false m w' w.heap.size w'.heap.size (.pointer (some ⟨b,0,none⟩)) f)\/(o=none/\a=none)):=by
 obtain⟨d,⟨f,b,c,rfl,g⟩ | ⟨c,rfl⟩⟩:=h
 ·exact⟨_,rfl,d,.inl ⟨f,b,c,rfl,g⟩⟩
 ·exact⟨_,rfl,d,.inr ⟨c,rfl⟩⟩
theorem kC(n:Nat)(hF:EL n)(ok:Nat->Prop)(w:World)(v:Value)(r:List Tr)(h:AJ ok (n+1) w v (.agg (.lit (.string [108,97,109,98,100,97])::r)))(A:∀x∈r,dF n x) :Calls prog 122 #[v] w fun e u=>C5 w (AD (n+1) (.agg (.lit (.string [108,97,109,98,100,97])::r))) e u:=by
 have O:Hid (AD (n+1) (.agg (.lit (.string [108,97,109,98,100,97])::r))=Pl.J9 (AD n) r):=(d9 n _ r (by decide)).trans rfl;have HR:=h_ h;have HF:=h_ hF;have B:((.lit (.string [108,97,109,98,100,97]))::r).length<=1000:=h.short;simp only [c_] at B;obtain⟨b,g,i,P,u0,us,rfl,hb,ck,Q,C,L,c0,hS,D,R,y,E⟩:=h.cons;have HS:=h_ hS;have HA:=h_ y;have S:=h_ E;have HL:=h_ D;obtain⟨b0,rfl,ac,F,G⟩:=R.EB;have R0:=h_ R;have T:=h_ A;clear h hF A hS y E D R;have ad:w.cell? ⟨b0,0,none⟩=some (.string ⟨#[110,97,109,101]⟩):=F;have ae:w.cell? ⟨b0,2,none⟩=some (.string ⟨([108,97,109,98,100,97]).toArray⟩):=G;clear F G;by_cases M:r.length=2
 ·obtain⟨z,t,rfl⟩:∃z t,r=[z,t]:=by
   match r,M with
   | [a,b],_=>exact⟨a,b,rfl⟩
  obtain⟨H,I,rfl⟩:∃H I,us=[H,I]:=by
   match us,HL with
   | [a,b],_=>exact⟨a,b,rfl⟩
  obtain⟨g',aa,ab,eS,_,_,_,U⟩:=HS.cell0;simp only [Value.slice.injEq,o_,Addr.mk.injEq,and_true] at eS;obtain⟨⟨rfl,rfl⟩,_,rfl⟩:=eS;have V:=U 0 H rfl;have W:=U 1 I rfl;simp only [Nat.zero_add,c_,z_] at V W Q C;obtain⟨X,s,y⟩:=S.out;have Y:AJ s n w H z:=y 0 H z rfl rfl;have Z:AJ s n w I t:=y 1 I t rfl rfl;obtain⟨d1,rfl⟩:=Y.ptr;obtain⟨d2,rfl⟩:=Z.ptr;have R1:=h_ Y;have R2:=h_ Z;clear U Y Z y X M;have e1:isName (.agg ((.lit (.string [108,97,109,98,100,97]))::[z,t]))=false:=rfl;go_enter func122,ntmps122;go_wp2_with fail;refine(aV ok (n+1) _ _ _ HR).mono ?_;rintro e w1 ⟨rfl,c⟩;obtain⟨q1,_⟩:=bP c;have k:=h_ c;have l:=c.size;clear c;go_wp2_with fail;refine(aR [108,97,109,98,100,97] _).mono ?_;rintro e w2 ⟨rfl,m⟩;have d:=h_ (k.trans (m.mono l));obtain⟨N,_⟩:=bP d;have o:=d.size;rw [show EE [108,97,109,98,100,97]=true from by first | assumption | decide];clear m q1 k l;go_wp2_with fail;have j3:=(N b 3 hb).trans Q;have j1:=(N g (i+1) L).trans V;have j2:=(N g (i+(1+1)) L).trans W
  go_region_held3 (fun u=>u.cell? ⟨b,3,none⟩=some (.slice (some ⟨g,i,none⟩) 3 P)/\u.cell? ⟨g,i+1,none⟩=some (.pointer (some ⟨d1,0,none⟩))/\u.cell? ⟨g,i+2,none⟩=some (.pointer (some ⟨d2,0,none⟩))/\Hid (Below w.heap.size w u))
   (first
    | (go_split_ands;exact⟨by assumption,by assumption,by assumption,kY (by assumption)⟩)
    | exact⟨j5,j6,j7,j⟩
    | go_keep)
   (first | (go_at_call 164;refine(mT n HF s s _ _ _ z t (R1.later d.drew) (R2.later d.drew) (T t (by simp))).mono ?_;rintro e w5 hp;obtain⟨po,rfl,J,q⟩:=C5.one hp;have j:=h_ ((d.drew.trans (J.mono o)));have j5:=(j.cell (p:=⟨b,3,none⟩) hb).trans Q;have j6:=(j.cell (p:=⟨g,i+1,none⟩) L).trans V;have j7:=(j.cell (p:=⟨g,i+(1+1),none⟩) L).trans W))
  have HC:=h_ q;clear q hp j5 j6 j7 J;go_wp2_with fail;go_ret;rcases HC.out with⟨f,bf,hr,rfl,m5,K⟩ | ⟨hr,rfl⟩
  ·exact⟨j,.inl ⟨_,_,O.trans hr,rfl,m5,K.wide o n_⟩⟩
  ·exact⟨j,.inr ⟨O.trans hr,rfl⟩⟩
 ·have af:((r.length:Int)+1==3)=false:=by simp;omega
  have HE:Hid (AD (n+1) (.agg (.lit (.string [108,97,109,98,100,97])::r))=none):=O.trans (by
   unfold Pl.J9;split
   ·simp at M
   ·rfl)
  clear M;have e1:isName (.agg ((.lit (.string [108,97,109,98,100,97]))::r))=false:=rfl;have ag:((r.length:Int)+1==0)=false:=by simp;omega
  go_enter func122,ntmps122
  go_wp2_with fail
  refine(aV ok (n+1) _ _ _ HR).mono ?_;rintro e w1 ⟨rfl,c⟩;obtain⟨q1,_⟩:=bP c;have k:=h_ c;have l:=c.size;clear c;go_wp2_with fail;refine(aR [108,97,109,98,100,97] _).mono ?_;rintro e w2 ⟨rfl,m⟩;have d:=h_ (k.trans (m.mono l));obtain⟨N,_⟩:=bP d;have o:=d.size;rw [show EE [108,97,109,98,100,97]=true from by first | assumption | decide];clear m q1 k l;go_wp2_with fail;go_ret;exact⟨d,.inr ⟨HE,rfl⟩⟩
theorem oP(n:Nat)(hF:EL n)(ok:Nat->Prop)(w:World)(v:Value)(r:List Tr)(h:AJ ok (n+1) w v (.agg (.lit (.string [108,101,116])::r)))(A:∀x∈r,dF n x) :Calls prog 122 #[v] w fun e y=>C5 w (AD (n+1) (.agg (.lit (.string [108,101,116])::r))) e y:=by
 have P:Hid (AD (n+1) (.agg (.lit (.string [108,101,116])::r))=Pl.J8 (AD n) r):=(d9 n _ r (by decide)).trans rfl;have HR:=h_ h;have HF:=h_ hF;have B:((.lit (.string [108,101,116]))::r).length<=1000:=h.short;simp only [c_] at B;obtain⟨b,g,i,Q,u0,us,rfl,hb,ck,R,C,M,c0,hS,D,S,z,E⟩:=h.cons;have HS:=h_ hS;have HA:=h_ z;have T:=h_ E;have HL:=h_ D;obtain⟨b0,rfl,ac,F,G⟩:=S.EB;have R0:=h_ S;have H:=h_ A;clear h hF A hS z E D S;have ad:w.cell? ⟨b0,0,none⟩=some (.string ⟨#[110,97,109,101]⟩):=F;have ae:w.cell? ⟨b0,2,none⟩=some (.string ⟨([108,101,116]).toArray⟩):=G;clear F G;by_cases N:r.length=2
 ·obtain⟨t,u,rfl⟩:∃t u,r=[t,u]:=by
   match r,N with
   | [a,b],_=>exact⟨a,b,rfl⟩
  obtain⟨I,J,rfl⟩:∃I J,us=[I,J]:=by
   match us,HL with
   | [a,b],_=>exact⟨a,b,rfl⟩
  obtain⟨g',aa,ab,eS,_,_,_,U⟩:=HS.cell0;simp only [Value.slice.injEq,o_,Addr.mk.injEq,and_true] at eS;obtain⟨⟨rfl,rfl⟩,_,rfl⟩:=eS;have V:=U 0 I rfl;have W:=U 1 J rfl;simp only [Nat.zero_add,c_,z_] at V W R C;obtain⟨X,s,z⟩:=T.out;have Y:AJ s n w I t:=z 0 I t rfl rfl;have Z:AJ s n w J u:=z 1 J u rfl rfl;obtain⟨d1,rfl⟩:=Y.ptr;obtain⟨d2,rfl⟩:=Z.ptr;have R1:=h_ Y;have R2:=h_ Z;clear U Y Z z X N;have e1:isName (.agg ((.lit (.string [108,101,116]))::[t,u]))=false:=rfl;go_enter func122,ntmps122;go_wp2_with fail;refine(aV ok (n+1) _ _ _ HR).mono ?_;rintro e w1 ⟨rfl,c⟩;obtain⟨q1,_⟩:=bP c;have k:=h_ c;have l:=c.size;clear c;go_wp2_with fail;refine(aR [108,101,116] _).mono ?_;rintro e w2 ⟨rfl,m⟩;have d:=h_ (k.trans (m.mono l));obtain⟨O,_⟩:=bP d;have o:=d.size;rw [show EE [108,101,116]=true from by first | assumption | decide];clear m q1 k l;go_wp2_with fail;have j3:=(O b 3 hb).trans R;have j1:=(O g (i+1) M).trans V;have j2:=(O g (i+(1+1)) M).trans W
  go_region_held3 (fun y=>y.cell? ⟨b,3,none⟩=some (.slice (some ⟨g,i,none⟩) 3 Q)/\y.cell? ⟨g,i+1,none⟩=some (.pointer (some ⟨d1,0,none⟩))/\y.cell? ⟨g,i+2,none⟩=some (.pointer (some ⟨d2,0,none⟩))/\Hid (Below w.heap.size w y))
   (first
    | (go_split_ands;exact⟨by assumption,by assumption,by assumption,kY (by assumption)⟩)
    | exact⟨j5,j6,j7,j⟩
    | go_keep)
   (first | (go_at_call 165;refine(rf_let n HF s s _ _ _ t u (R1.later d.drew) (R2.later d.drew) (H t (by simp)) (H u (by simp))).mono ?_;rintro e w5 hp;obtain⟨po,rfl,K,q⟩:=C5.one hp;have j:=h_ ((d.drew.trans (K.mono o)));have j5:=(j.cell (p:=⟨b,3,none⟩) hb).trans R;have j6:=(j.cell (p:=⟨g,i+1,none⟩) M).trans V;have j7:=(j.cell (p:=⟨g,i+(1+1),none⟩) M).trans W))
  have HC:=h_ q;clear q hp j5 j6 j7 K;go_wp2_with fail;go_ret;rcases HC.out with⟨f,bf,hr,rfl,m5,L⟩ | ⟨hr,rfl⟩
  ·exact⟨j,.inl ⟨_,_,P.trans hr,rfl,m5,L.wide o n_⟩⟩
  ·exact⟨j,.inr ⟨P.trans hr,rfl⟩⟩
 ·have af:((r.length:Int)+1==3)=false:=by simp;omega
  have HE:Hid (AD (n+1) (.agg (.lit (.string [108,101,116])::r))=none):=P.trans (by
   unfold Pl.J8;split
   ·simp at N
   ·rfl)
  clear N;have e1:isName (.agg ((.lit (.string [108,101,116]))::r))=false:=rfl;have ag:((r.length:Int)+1==0)=false:=by simp;omega
  go_enter func122,ntmps122
  go_wp2_with fail
  refine(aV ok (n+1) _ _ _ HR).mono ?_;rintro e w1 ⟨rfl,c⟩;obtain⟨q1,_⟩:=bP c;have k:=h_ c;have l:=c.size;clear c;go_wp2_with fail;refine(aR [108,101,116] _).mono ?_;rintro e w2 ⟨rfl,m⟩;have d:=h_ (k.trans (m.mono l));obtain⟨O,_⟩:=bP d;have o:=d.size;rw [show EE [108,101,116]=true from by first | assumption | decide];clear m q1 k l;go_wp2_with fail;go_ret;exact⟨d,.inr ⟨HE,rfl⟩⟩
theorem gP:∀n:Nat,n<=1000->EL n
 | 0,_=>fun _ _ _ _ h=>h.elim
 | n+1,i=>by
  have b:=gP n (by omega);intro a w v t h e;by_cases d:∃f,t=.agg f
  ·obtain⟨f,rfl⟩:=d
   cases f with
   | nil=>exact oO n a w v h
   | cons k r =>
    have c:∀x∈r,dF n x:=fun x m=>e.2 x (List.mem_cons_of_mem _ m)
    cases j:Pl.BJ (k::r) with
    | none=>exact MN n b a w v k r h e.2 j
    | some o =>
     obtain⟨rfl,g⟩:=pO j;have l:=(Pl.IH o).1 g;simp only [Pl.RZ,List.mem_cons,List.not_mem_nil,or_false] at l;rcases l with rfl | rfl | rfl | rfl | rfl | rfl | rfl
     ·exact lC n i b a w v r h (dF.CG _ _ e) c
     ·exact rQ n b a w v r h c
     ·exact kC n b a w v r h c
     ·exact oN n b a w v r h c
     ·exact kD n b a w v r h c
     ·exact lD n b a w v r h c
     ·exact oP n b a w v r h c
  ·exact mV n i a w v t h (dF.CG _ _ e) d
theorem rf_top(n:Nat)(E:n+1<=1000)(ok:Nat->Prop)(w:World)(v:Value)(t:Tr)(h:AJ ok (n+1) w v t)(B:dF (n+1) t) :Calls prog 73 #[v] w fun e V=>C5 w (Pl.BZ n t) e V:=by
 have C:=h_ h;have p:=h_ B;clear B;by_cases q:∃K,t=.agg K
 ·obtain⟨K,rfl⟩:=q
  cases K with
  | nil =>
   have l:Hid (Pl.BZ n (.agg [])=AD (n+1) (.agg [])):=rfl;obtain⟨b,P,vs,rfl,Q,D,L,W,R,_⟩:=h.list;have X:w.cell? ⟨b,0,none⟩=some (.string ⟨#[108,105,115,116]⟩):=D;obtain⟨ao,M,rfl,_⟩:=W;rw [R] at L;simp only [z_] at L;clear D R h;go_enter func73,ntmps73;go_wp2_with fail;refine(gP (n+1) E ok _ _ _ C p).mono ?_;rintro e F ⟨a,c⟩;have d:=h_ a;rcases c with⟨f,G,i,rfl,m⟩ | ⟨i,rfl⟩
   ·have j:=h_ (l.trans i);have u:=h_ m;clear a i m;go_wp2_with fail;go_ret;exact⟨d,.inl ⟨_,_,j,rfl,u⟩⟩
   ·have j:=h_ (l.trans i);clear a i;go_wp2_with fail;go_ret;exact⟨d,.inr ⟨j,rfl⟩⟩
  | cons k r =>
   obtain⟨b,g,Y,M,u0,us,rfl,Q,D,L,S,hg,c0,_,_,H,_,_⟩:=h.cons;have T:(0:Int)<(r.length:Int)+1:=by omega
   obtain⟨N,rfl,Z,o,A⟩:=H.EB;by_cases y:∃s,k=.lit (.string s)
   ·obtain⟨s,rfl⟩:=y;have O:w.cell? ⟨N,0,none⟩=some (.string ⟨#[110,97,109,101]⟩):=o;have aa:w.cell? ⟨N,2,none⟩=some (.string ⟨s.toArray⟩):=A;clear o A h H;by_cases I:s=[100,101,102,105,110,101]
    ·subst I;have l:Hid (Pl.BZ n (.agg (.lit (.string [100,101,102,105,110,101])::r))=Pl.E6 .define (AD n) r):=rfl;go_enter func73,ntmps73;go_wp2_with fail;refine(iY n (gP n (by omega)) .define (.inr rfl) ok _ _ r C (fun x hx=>p.2 x (List.mem_cons_of_mem _ hx))).mono ?_;rintro e F ⟨a,c⟩;have d:=h_ a;rcases c with⟨f,G,i,rfl,m⟩ | ⟨i,rfl⟩
     ·have j:=h_ (l.trans i);have u:=h_ m;clear a i m;go_wp2_with fail;go_ret;exact⟨d,.inl ⟨_,_,j,rfl,u⟩⟩
     ·have j:=h_ (l.trans i);clear a i;go_wp2_with fail;go_ret;exact⟨d,.inr ⟨j,rfl⟩⟩
    ·have l:Hid (Pl.BZ n (.agg (.lit (.string s)::r))=AD (n+1) (.agg (.lit (.string s)::r))):=by
      show Pl.BZ _ _=_;unfold Pl.BZ;dsimp only;rw [if_neg (show ¬s=Pl.CK from I)]
     have ed:(s==[100,101,102,105,110,101])=false:=by simpa using I
     clear I;go_enter func73,ntmps73;go_wp2_with fail;refine(gP (n+1) E ok _ _ _ C p).mono ?_;rintro e F ⟨a,c⟩;have d:=h_ a;rcases c with⟨f,G,i,rfl,m⟩ | ⟨i,rfl⟩
     ·have j:=h_ (l.trans i);have u:=h_ m;clear a i m;go_wp2_with fail;go_ret;exact⟨d,.inl ⟨_,_,j,rfl,u⟩⟩
     ·have j:=h_ (l.trans i);clear a i;go_wp2_with fail;go_ret;exact⟨d,.inr ⟨j,rfl⟩⟩
   ·have l:Hid (Pl.BZ n (.agg (k::r))=AD (n+1) (.agg (k::r))):=by
     show Pl.BZ _ _=_;unfold Pl.BZ;split
     ·rename_i h0 e;simp only [DataW.agg.injEq,List.cons.injEq] at e;exact absurd ⟨_,e.1⟩ y
     ·rfl
    have z:∃J:List UInt8,w.cell? ⟨N,0,none⟩=some (.string ⟨J.toArray⟩)/\(J==[110,97,109,101])=false:=by
     rcases H.kinds with⟨_,_,rfl⟩ | ⟨_,rfl⟩ | ⟨s,rfl⟩ | ⟨_,rfl⟩
     ·exact⟨[110,117,109,98,101,114],o,by decide⟩
     ·exact⟨[116,114,117,116,104],o,by decide⟩
     ·exact absurd ⟨s,rfl⟩ y
     ·exact⟨[108,105,115,116],o,by decide⟩
    obtain⟨J,O,U⟩:=z;clear o A y h H;go_enter func73,ntmps73;go_wp2_with fail;refine(gP (n+1) E ok _ _ _ C p).mono ?_;rintro e F ⟨a,c⟩;have d:=h_ a;rcases c with⟨f,G,i,rfl,m⟩ | ⟨i,rfl⟩
    ·have j:=h_ (l.trans i);have u:=h_ m;clear a i m;go_wp2_with fail;go_ret;exact⟨d,.inl ⟨_,_,j,rfl,u⟩⟩
    ·have j:=h_ (l.trans i);clear a i;go_wp2_with fail;go_ret;exact⟨d,.inr ⟨j,rfl⟩⟩
 ·have l:Hid (Pl.BZ n t=AD (n+1) t):=by
   show Pl.BZ _ _=_;unfold Pl.BZ;split
   ·exact absurd ⟨_,rfl⟩ q
   ·rfl
  obtain⟨J,z,ab⟩:=h.KQ q;obtain⟨b,rfl,Q,D,cs⟩:=h.EB;rw [z] at D;clear z q h cs;go_enter func73,ntmps73;go_wp2_with fail;refine(gP (n+1) E ok _ _ _ C p).mono ?_;rintro e F ⟨a,c⟩;have d:=h_ a;rcases c with⟨f,G,i,rfl,m⟩ | ⟨i,rfl⟩
  ·have j:=h_ (l.trans i);have u:=h_ m;clear a i m;go_wp2_with fail;go_ret;exact⟨d,.inl ⟨_,_,j,rfl,u⟩⟩
  ·have j:=h_ (l.trans i);clear a i;go_wp2_with fail;go_ret;exact⟨d,.inr ⟨j,rfl⟩⟩
def ReadQ(w:World)(bs:List UInt8)(e:Ending)(w':World):Prop:=∃po,e=.returned (.tuple #[.pointer po,.int .i64 (Pl.check bs:Int)])/\Below w.heap.size w w' /\
 (Pl.check bs=0->∃f b m,Pl.BQ bs=some f/\po=some ⟨b,0,none⟩/\AX false m w' w.heap.size w'.heap.size (.pointer (some ⟨b,0,none⟩)) f)
theorem kN(n:Nat)(t:Tr):(Pl.BZ n t).isSome=Pl.GY n t:=by
 have b:(fun x=>(AD n x).isSome)=C4 n:=funext (Pl.DJ n);unfold Pl.BZ;split
 ·rename_i h r;show _=if h=Pl.CK then Pl.OI (C4 n) r else C4 (n+1) _;split
  ·rw [Pl.JZ,b]
  ·exact Pl.DJ _ _
 ·rename_i a;rw [Pl.DJ];unfold Pl.GY;split
  ·rename_i h r;exact absurd rfl (a h r)
  ·rfl
theorem W4(n:Nat)(m:∀l p,Pl.pd n l=some p->p.gr=false->(∀t∈l,t.length<=300)->l.length<=900->dF n p.t):∀(k:Nat)(l:List Pl.Tok)(p:Pl.PL),Pl.IG (Pl.pd n) k l=some p->p.gr=false->(∀t∈l,t.length<=300)->l.length<=900->(p.ts.length+p.q.length+1<=l.length/\∀x∈p.ts,dF n x):=by
 intro k
 induction k with
 | zero=>intro l p h;simp [Pl.IG] at h
 | succ k b =>
  intro l p h c f o
  cases l with
  | nil=>simp [Pl.IG] at h
  | cons t r =>
   rw [Pl.I9] at h;split at h
   ·obtain rfl:=i_ h;simp
   ·cases a:Pl.pd n (t::r) with
    | none=>rw [a] at h;simp at h
    | some g =>
     rw [a] at h;dsimp only at h;have i:=Pl.FI _ _ _ a
     cases d:Pl.IG (Pl.pd n) k g.q with
     | none=>rw [d] at h;simp at h
     | some v =>
      rw [d] at h;simp only [Option.map_some,o_] at h;subst h;simp only [Bool.or_eq_false_iff] at c;have q:g.q.length<(t::r).length:=i.2;have s:=m _ _ a c.1 f o;have j:=b _ _ d c.2 (fun y u=>f y (i.1.mem u)) (by omega);refine⟨?_,fun x e=>?_⟩
      ·have:=j.1;simp only [c_] at q ⊢;omega
      ·rcases List.mem_cons.1 e with rfl | e
       ·exact s
       ·exact j.2 x e
theorem uL:∀(n:Nat)(l:List Pl.Tok)(p:Pl.PR),Pl.pd n l=some p->p.gr=false->(∀t∈l,t.length<=300)->l.length<=900->dF n p.t
 | 0,_,_,h,_,_,_=>by simp [Pl.pd] at h
 | n+1,[],_,h,_,_,_=>by simp [Pl.pd] at h
 | n+1,t::r,p,h,c,d,e=>by
  have i:=(Pl.NP _ _ _ h).CG c d;unfold Pl.pd at h;split at h
  ·simp at h
  split at h
  ·obtain rfl:=i_ h;trivial
  split at h
  ·obtain rfl:=i_ h;trivial
  split at h
  ·simp only [Option.map_eq_some_iff] at h;obtain⟨b,a,rfl⟩:=h;have o:=uL n r b a c (fun y f=>d y (List.mem_cons_of_mem _ f)) (by simp at e;omega)
   cases n with
   | zero=>simp [Pl.pd] at a
   | succ m =>
    refine⟨by simp,fun x g=>?_⟩;rcases List.mem_cons.1 g with rfl | g
    ·show Pl.CB.length<=300;decide
    ·obtain rfl:x=b.t:=by simpa using g
     exact o
  split at h
  ·simp only [Option.map_eq_some_iff] at h;obtain⟨b,a,rfl⟩:=h;have o:=W4 n (fun l p=>uL n l p) _ _ _ a c (fun y f=>d y (List.mem_cons_of_mem _ f)) (by simp at e;omega);exact⟨by have:=o.1;simp at e;omega,o.2⟩
  ·simp only [Option.map_eq_some_iff] at h;obtain⟨b,a,rfl⟩:=h;unfold Pl.pw at a;split at a
   ·obtain rfl:=i_ a;exact i
   ·split at a
    ·obtain rfl:=i_ a;exact i
    ·simp at a
theorem aEI(s:ByteArray)(w:World)(aq:s.size<=maxLen):Calls prog 43 #[.string s] w fun e w'=>ReadQ w s.data.toList e w':=by
 unfold maxLen at aq;by_cases hs:300<s.size
 ·have q:Hid (Pl.check s.data.toList=1):=show Pl.check _=1 from by unfold Pl.check;rw [if_pos (by simpa using hs)]
  go_enter func43,ntmps43
  go_wp2_with fail
  go_ret2;exact⟨none,by rw [q.out];rfl,r_,fun u=>by rw [q.out] at u;cases u⟩
 ·have W:¬300<s.data.toList.length:=by simpa using hs
  have ar:decide ((300:Int)<(s.size:Int))=false:=by simp;omega
  go_enter func43,ntmps43
  go_wp2_with fail
  refine(rT s _ (by omega)).mono ?_;rintro e w1 ⟨v,bo,rfl,X,n⟩;have Y:=h_ X;have S:=X.size;clear X;rcases n with⟨A,rfl⟩ | ⟨l,A,rfl,F⟩
  ·have q:Hid (Pl.check s.data.toList=2):=show Pl.check _=2 from by unfold Pl.check;rw [if_neg W,A]
   clear A;go_wp2_with fail;go_ret2;exact⟨none,by rw [q.out];rfl,Y,fun u=>by rw [q.out] at u;cases u⟩
  ·have HC:Hid (Pl.check s.data.toList=if l.all Pl.BF=false then 2 else match Pl.pd l.length l with
     | none=>2
     | some p=>if p.q≠[] then 2 else if 20<p.dp then 3 else if p.gr=true then 4 else if Pl.GY (l.length-1) p.t=true then 0 else 5):=show Pl.check _=_ from by
    unfold Pl.check;rw [if_neg W,A];rfl
   have Q:=(Pl.F2 A)
   have bh:l.length<=300:=by have:=Q.1;omega
   have Z:Hid (∀t∈l,0<t.length/\t.length<=300):=fun t h=>⟨(Q.2 t h).1,by have:=(Q.2 t h).2;omega⟩
   have au:=h_ A;clear Q A W;have T:Hid (DR w1 v l):=⟨F.1,F.2.imp id (fun⟨g,G,av,a,b,c⟩=>⟨g,G,av,a,Nat.zero_le _,c⟩)⟩
   obtain⟨ao,G,rfl,be,H⟩:=dM T;have ad:=h_ H;clear H F;go_wp2_with fail
   go_loopw [6] (fun i wr=>∃k:Nat,k<=l.length/\i=.int .i64 k/\Hid (Below w1.heap.size w1 wr)/\Hid ((l.take k).all Pl.BF=true)) (fun i _=>l.length-(intOf i).toNat)
   case atStart=>exact⟨0,Nat.zero_le _,rfl,r_,by simp [Hid]⟩
   case round =>
    obtain⟨k,hk,rfl,HB,HG⟩:=hrel;by_cases ae:k<l.length
    ·obtain⟨t,A⟩:∃t,l[k]?=some t:=⟨l[k],g_ ae⟩
     obtain⟨g,rfl,hc⟩:=ad.out k t A;have C:=Z.out t (q_ A);have af:g<w1.heap.size:=World.block_lt_of_cell? _ _ hc;have I:wr.cell? ⟨g,k,none⟩=some (.string ⟨t.toArray⟩):=(HB.cell (p:=⟨g,k,none⟩) af).trans hc;have J:∀o:Obj,(wr.alloc o).cell? ⟨g,k,none⟩=some (.string ⟨t.toArray⟩):=fun o=>((HB.alloc HB.size o).cell (p:=⟨g,k,none⟩) af).trans hc;have HX:=h_ A;have bg:(k:Int)<(l.length:Int):=by omega
     obtain⟨E,z⟩:∃E:ByteArray,E=⟨t.toArray⟩:=⟨_,rfl⟩
     have y:0<E.size:=by rw [z];show 0<t.toArray.size;simpa using C.1
     have ag:E.data.toList=t:=by rw [z]
     rw [<- z] at I J;have HD:=h_ ag;have ah:E.size<=1000:=by rw [z];show t.toArray.size<=1000;have:=C.2;simp;omega
     clear A hc z ag;go_wp2_with (go_at_call 70;refine(aZ (E[0]'y) _).mono ?_;rintro e w' ⟨rfl,rfl⟩);refine(qG wr.heap.size E _ (.slice none 0 0) 0 0 false (show Rd _ _ _ _ _ _ from heap_alloc_new _ _) ah).mono ?_;rintro e w2 ⟨v2,g2,rfl,d,B,n⟩;have r:Hid (Below w1.heap.size w1 w2):=HB.trans ((iB rfl d).mono HB.size)
     have D:t.headD 0=E[0]'y:=by
      have P:0<E.data.toList.length:=by simpa using y
      rw [<- HD.out,Pl.K3 _ P,bE E 0 y]
     rw [HD.out] at n;rcases n with⟨P,_,h3⟩ | ⟨P,h2,_,h3⟩ | ⟨P,h2,rfl⟩
     ·have K:Hid ((l.take (k+1)).all Pl.BF=true):=dK HG HX (by simp [Pl.BF,P]);obtain⟨bv,rfl⟩:=h3.ptr;clear d B P h3 D I J C;go_wp2_with fail
      all_goals
       go_roundw
       case rel=>exact⟨k+1,by omega,by go_num,r,K⟩
       case measure=>simp [intOf];omega
     ·have K:Hid ((l.take (k+1)).all Pl.BF=true):=dK HG HX (by simp [Pl.BF,h2]);obtain⟨bv,rfl⟩:=h3.ptr;clear d B P h2 h3 D I J C;go_wp2_with fail
      all_goals
       go_roundw
       case rel=>exact⟨k+1,by omega,by go_num,r,K⟩
       case measure=>simp [intOf];omega
     ·by_cases hw:CV (E[0]'y)=true
      ·have U:l.all Pl.BF=false:=by
        rw [List.all_eq_false];exact⟨t,q_ HX,by simp only [Pl.BF,P,h2,D,hw];decide⟩
       have q:Hid (Pl.check s.data.toList=2):=show Pl.check _=2 from by rw [HC.out,if_pos U]
       clear d B P h2 D I J C U;go_wp2_with fail;go_ret2;exact⟨none,by rw [q.out];rfl,Y.trans (r.mono S),fun u=>by rw [q.out] at u;cases u⟩
      ·have aw:CV (E[0]'y)=false:=by simpa using hw
       have K:Hid ((l.take (k+1)).all Pl.BF=true):=dK HG HX (by simp only [Pl.BF,D,aw];rfl);clear d B P h2 D I J C hw;go_wp2_with fail
       go_roundw
       case rel=>exact⟨k+1,by omega,by go_num,r,K⟩
       case measure=>simp [intOf];omega
    ·have ax:k=l.length:=by omega
     subst ax;have L:¬l.all Pl.BF=false:=by have:=HG.out;rw [List.take_length] at this;simp [this]
     have aa:Hid (Pl.check s.data.toList=match Pl.pd l.length l with
       | none=>2
       | some p=>if p.q≠[] then 2 else if 20<p.dp then 3 else if p.gr=true then 4 else if Pl.GY (l.length-1) p.t=true then 0 else 5):=show Pl.check _=_ from by rw [HC.out,if_neg L]
     have ay:Hid (DR wr (.slice ao l.length G) l):=T.kept (aQ none HB) (by cases hv:Value.ownBlock (.slice ao l.length G)<;>simp);have ai:=h_ (Y.trans (HB.mono S));have aj:=ai.size;clear L HC hk ae HG ad;go_wp2_with fail;refine(jA l.length _ wr.heap.size (.slice ao l.length G) l l 0 0 false (show Rd _ _ _ _ _ _ from(heap_alloc_new _ _).trans (by simp [TR])) (World.ownsRow.alloc ay _) (List.suffix_refl _) n_ (by omega) (by omega) n_ (fun t A=>by have:=(Z t A).2;omega) 0 rfl).mono ?_;rintro e w2 ⟨d,x⟩;have r:Hid (Below w.heap.size w w2):=ai.trans ((iB rfl d).mono aj)
     cases R:Pl.pd l.length l with
     | none =>
      rw [R] at x;dsimp only at x;subst x;have q:Hid (Pl.check s.data.toList=2):=show Pl.check _=2 from by rw [aa.out,R]
      clear R d;go_wp2_with fail;go_ret2;exact⟨none,by rw [q.out];rfl,r,fun u=>by rw [q.out] at u;cases u⟩
     | some p =>
      rw [R] at x;obtain⟨v2,rfl,M,B⟩:=x;have j:Hid (Pl.check s.data.toList=if p.q≠[] then 2 else if 20<p.dp then 3 else if p.gr=true then 4 else if Pl.GY (l.length-1) p.t=true then 0 else 5):=show Pl.check _=_ from by rw [aa.out,R]
      have N:=uK R;have ak:Hid (Pl.BQ s.data.toList=Pl.BZ (l.length-1) p.t):=show Pl.BQ _=_ from by unfold Pl.BQ;rw [au.out];dsimp only;rw [R]
      have az:Hid (p.gr=false->dF l.length p.t):=fun hg=>uL _ _ _ R hg (fun t A=>(Z t A).2) (by omega);have al:Hid (AJ (fun _=>True) l.length w2 v2 p.t):=AJ.mono (fun _ _ _=>trivial) _ _ _ M;obtain⟨bv,rfl⟩:=M.ptr;obtain⟨_,c1,c2,c3⟩:=B.cells;clear R d M B aa;by_cases hq:p.q=[]
      ·rw [hq] at c1;simp only [z_,Nat.sub_zero] at c1;simp only [Nat.zero_add,Nat.zero_max] at c2;simp only [Bool.false_or] at c3;rw [if_neg (by simp [hq])] at j;have ba:decide ((l.length:Int)<(l.length:Int))=false:=by simp
       clear hq;by_cases V:20<p.dp
       ·have q:Hid (Pl.check s.data.toList=3):=show Pl.check _=3 from by rw [j.out,if_pos V]
        clear j N;go_wp2_with fail;go_ret2;exact⟨none,by rw [q.out];rfl,r,fun u=>by rw [q.out] at u;cases u⟩
       ·rw [if_neg V] at j;by_cases d:p.gr=true
        ·have q:Hid (Pl.check s.data.toList=4):=show Pl.check _=4 from by rw [j.out,if_pos d]
         clear j N;go_wp2_with fail;go_ret2;exact⟨none,by rw [q.out];rfl,r,fun u=>by rw [q.out] at u;cases u⟩
        ·rw [if_neg d] at j;have am:p.gr=false:=by simpa using d
         obtain⟨m,hm⟩:=N;have ab:Hid (AJ (fun _=>True) (m+1) w2 (.pointer (some ⟨bv,0,none⟩)) p.t):=by rw [<- hm];exact al
         rw [show l.length-1=m from by omega] at j;have bb:Hid (Pl.BQ s.data.toList=Pl.BZ m p.t):=by rw [show m=l.length-1 from by omega];exact ak
         have an:Hid (m+1<=1000/\dF (m+1) p.t):=by rw [<- hm];exact⟨by omega,az am⟩
         clear d hm;go_wp2_with fail;refine(rf_top m an.1 _ _ _ p.t ab an.2).mono ?_;rintro e w5 ⟨ac,n⟩;have ap:=h_ (r.trans (ac.mono r.size));rcases n with⟨f,bf,hf,rfl,m5,O⟩ | ⟨hf,rfl⟩
         ·have q:Hid (Pl.check s.data.toList=0):=show Pl.check _=0 from by rw [j.out,if_pos (by rw [<- kN,hf];rfl)]
          have bc:=h_ (bb.trans hf);have bd:Hid (AX false m5 w5 w.heap.size w5.heap.size (.pointer (some ⟨bf,0,none⟩)) f):=O.wide r.size n_;clear ac hf j O;go_wp2_with fail;go_ret2;exact⟨_,by rw [q.out];rfl,ap,fun _=>⟨f,bf,m5,bc,rfl,bd⟩⟩
         ·have q:Hid (Pl.check s.data.toList=5):=show Pl.check _=5 from by rw [j.out,if_neg (by rw [<- kN,hf];simp)]
          clear ac hf j;go_wp2_with fail;go_ret2;exact⟨none,by rw [q.out];rfl,ap,fun u=>by rw [q.out] at u;cases u⟩
      ·have bi:0<p.q.length:=List.length_pos_iff.2 hq;have q:Hid (Pl.check s.data.toList=2):=show Pl.check _=2 from by rw [j.out,if_pos hq]
       have ba:((l.length-p.q.length:Nat):Int)<(l.length:Int):=by obtain⟨m,hm⟩:=N;omega
       clear hq j N;go_wp2_with fail;go_ret2;exact⟨none,by rw [q.out];rfl,r,fun u=>by rw [q.out] at u;cases u⟩
end
end Go.Proofs.YtkgbdddkcjpgfaaGreatDoor
