import Derived.Test.YtkgbdddkcjpgfaaGreatDoorR05
namespace Go.Proofs.YtkgbdddkcjpgfaaGreatDoor
set_option maxHeartbeats 2000000
set_option maxRecDepth 100000
open Go.Proofs.Tryz
open Pl (CV)
section
open Go.RowKit
variable {bs:List UInt8} {l:List (List UInt8)} {n:Nat} {w:World}
theorem Tryz.TX:(prog.info? 109).map (fun i=>(i.zero,i.size,i.bytes))=some (some .nilIface,1,16):=by kernel_rfl
def PLPost(n:Nat)(w:World)(b dep dpst:Nat)(g:Bool)(r:List (List UInt8))(e:Ending)(w':World):Prop :=
 w.grownBy w' (some b) /\
 match Pl.IG (Pl.pd n) r.length r with
 | none=>∃s,e=.returned (.tuple #[.nilIface,aY s 2])
 | some p=>∃v rest',e=.returned (.tuple #[v,.nilIface])/\AN (fun k=>w.heap.size<=k) (n+1) w' v (.agg p.ts)/\EW w' b rest' dep ((max dpst (dep+1+p.dp):Nat):Int) (g||p.gr)/\DG w' rest' p.q
theorem kind1(t:List UInt8):(cE t==1)=(t==[41]):=by
 unfold cE;by_cases h:t=[41]
 ·subst h;rfl
 ·rw [beq_eq_false_iff_ne.2 h];by_cases a:t=[40]
  ·subst a;rfl
  ·rw [if_neg a,if_neg h];split
   ·rfl
   ·split
    ·rfl
    ·split<;>rfl
def ZZ:Value->Nat | .slice _ n _=>n | _=>0
theorem S6(n:Nat)(ih:LJ n)(w:World)(b:Nat)(rest:Value)(r:List (List UInt8))(f d:Nat)(g:Bool)(h:EW w b rest f d g)(Z:DG w rest r)(N:GE w)(m:6<b)(hn:r.length<=n)(hr:r.length<=1000)(hd:f+1+r.length<=2000)(an:f<=d)(O:∀t∈r,N_ t) :Calls prog 186 #[.pointer (some ⟨b,0,none⟩)] w fun e w'=>PLPost n w b f d g r e w':=by
 obtain⟨i0,aa,ab,ac,ad⟩:=info_parts Tryz.TX;have ae:b<w.heap.size:=aB h;have HI:=h_ ih;have HH:=h_ h;have HT:=h_ Z;have af:=h_ N;have ag:=h_ O;clear ih h Z N O;go_enter func186,ntmps186;go_wp2_with fail;refine(u7 w b rest f d g HH (by omega)).mono ?_;rintro e w1 ⟨rfl,B,F⟩;have HS:Hid (∀o:Obj,o=.cells #[] PT (0,0)->L6 n w (w1.alloc o) b r f d g r rest (.slice (some ⟨w1.heap.size,0,none⟩) 0 0) [] [] 0 false):=fun o ho=>L6.start F (HT.grown B HH) B (af.grown B m) ae o ho;clear B F;go_wp2_with fail
 go_loopw [4] (fun I wr=>∃q u ts vs C gk,Hid (L6 n w wr b r f d g q u I ts vs C gk)) (fun _ wr=>ZZ ((wr.cell? ⟨b,0,none⟩).getD undef))
 case atStart=>exact⟨_,_,_,_,_,_,HS _ rfl⟩
 case round =>
  obtain⟨q,u,ts,vs,C,gk,a⟩:=hrel;go_wp2_with fail;refine(yY wr b u _ _ _ q a.rd a.tk).mono ?_;rintro e wz ⟨rfl,rfl⟩;have ap:=a.LQ.length_le;have aq:=a.len;have P:Hid (∀t∈q,N_ t):=fun t Z=>ag.out t (a.LQ.subset Z);have Q:ZZ ((wr.cell? ⟨b,0,none⟩).getD undef)=q.length:=by rw [a.rd.cells.1];obtain⟨ao,R,hv,_⟩:=a.tk;rw [hv];rfl
  cases q with
  | nil =>
   have i:=h_ a.lf.none_;have S:Pl.pd n []=none:=by cases n<;>rfl
   go_wp2_with fail
   refine(HI wr b u [] (f+1) (max d (f+1+C)) (g||gk) a.rd a.tk a.ge m (by simp) (by simp) (by simp;omega) (by omega) (by simp)).mono ?_;rintro e w2 ⟨k,c⟩;rw [S] at c;obtain⟨s,rfl⟩:=c;have HG:=h_ (aC a.grown k);unfold aY;clear k S;go_wp2_with fail;go_ret2;refine⟨HG,?_⟩;rw [i.out];exact⟨s,rfl⟩
  | cons t q0 =>
   simp only [List.head?_cons,Option.any_some,kind1];by_cases D:t=[41]
   ·subst D;have i:=h_ a.lf.close;obtain⟨g0,ar,R,U,aj,au,_,_,V⟩:=a.tk.cons;subst U;have W:=h_ V;obtain⟨c0,c1,c2,c3⟩:=a.rd.cells;have f0:=aF a.rd 0;obtain⟨av,ak,ah,_⟩:=bC a.row;subst ah;clear V Q P;have e1:([41]==([41]:List UInt8))=true:=by decide
    go_wp2_with fail
    ·refine(oW _ b _ _ _ _ (a.rd.IM _) (by omega)).mono ?_;rintro e w3 ⟨rfl,z,j⟩;have l:Hid (wr.grownBy w3 (some b)):=aC (aE _ _ _ _) z;have J:=h_ j;clear z j c0 c1 c2 c3 f0;go_wp2_with fail;go_ret2;refine⟨aC a.grown l,?_⟩;rw [i.out];refine⟨_,_,rfl,a.done hr l,J.cast (by omega) rfl rfl,?_⟩;exact(W _ _ (by omega) (by intro hh;first | rfl | (exfalso;omega))).grown l a.rd
    ·refine(oW _ b _ _ _ _ (a.rd.IM _) (by omega)).mono ?_;rintro e w3 ⟨rfl,z,j⟩;have l:Hid (wr.grownBy w3 (some b)):=aC (aE _ _ _ _) z;have J:=h_ j;clear z j c0 c1 c2 c3 f0;go_wp2_with fail;go_ret2;refine⟨aC a.grown l,?_⟩;rw [i.out];refine⟨_,_,rfl,a.done hr l,J.cast (by omega) rfl rfl,?_⟩;exact(W _ _ (by omega) (by intro hh;first | rfl | (exfalso;omega))).grown l a.rd
   ·have aw:(t==[41])=false:=by simpa using D
    go_wp2_with fail
    refine(HI wr b u (t::q0) (f+1) (max d (f+1+C)) (g||gk) a.rd a.tk a.ge m (by omega) (by omega) (by omega) (by omega) P).mono ?_;rintro e w2 ⟨k,c⟩
    cases K:Pl.pd n (t::q0) with
    | none =>rw [K] at c;obtain⟨s,rfl⟩:=c;have i:=h_ (a.lf.fail D K);have HG:=h_ (aC a.grown k);unfold aY;clear k K;go_wp2_with fail;go_ret2;refine⟨HG,?_⟩;rw [i.out];exact⟨s,rfl⟩
    | some p =>
     rw [K] at c;obtain⟨v,al,rfl,A,G,H⟩:=c;have HM:=h_ (a.call m D K k A G H);obtain⟨T,x,rfl,X⟩:=A.iface;have ai:=(Pl.DA n _ _ K).2;have ax:=HM.grown.size;clear K k A G H a;go_wp2_with (first | (at_builtin;refine wpList_append_lies _ rfl _ _ 115 rfl w.heap.size 109 i0 .nilIface 1 16 underlying115 aa ab ac ad rfl (by decide) u4 ts.length vs rfl (HM.row.alloc _) ⟨w2.heap.size,0,none⟩ 1 1 [.iface T x] rfl rfl (cell_one_new _ _ _) (fun y hy=>by simp at hy;subst hy;exact X) (by decide) (by unfold maxLen;omega) (by omega) (by simp;omega) (w2.heap.size+1) (by simp) ?_;intro g3 am w3 L E Y _));have M:=h_ (HM.push m X L E Y)
     go_roundw
     case rel=>exact⟨_,_,_,_,_,_,M⟩
     case measure =>rw [Q,M.rd.cells.1];obtain⟨ao,R,hv,_⟩:=M.tk;rw [hv];exact ai
def PQPost(n:Nat)(w:World)(b dep dpst:Nat)(g:Bool)(r:List (List UInt8))(e:Ending)(w':World):Prop :=
 w.grownBy w' (some b) /\
 match Pl.pd n r with
 | none=>∃s,e=.returned (.tuple #[.nilIface,aY s 2])
 | some p=>∃v rest',e=.returned (.tuple #[v,.nilIface])/\AN (fun k=>w.heap.size<=k) (n+1) w' v (.agg [.lit (.string Pl.CB),p.t])/\EW w' b rest' dep ((max dpst (dep+1+p.dp):Nat):Int) (g||p.gr)/\DG w' rest' p.q
theorem rS{ok:Nat->Prop}{v:Value}{t:Tr}(h:AN ok (n+1) w v t)(c:∀k,w.heap.size<=k->ok k)(o:Obj)(d:o=.cells #[.iface 117 (.string ⟨#[113,117,111,116,101]⟩),v] PT (0,0)) :AN ok (n+2) (w.alloc o) (.iface 115 (.slice (some ⟨w.heap.size,0,none⟩) 2 2)) (.agg [.lit (.string Pl.CB),t]):=by
 refine⟨_,[.iface 117 (.string ⟨#[113,117,111,116,101]⟩),v],rfl,?_,⟨rfl,.inr ⟨w.heap.size,2,_,rfl,Nat.zero_le _,by rw [d];exact heap_alloc_new _ _,by simp,by simp [maxLen],rfl,rfl⟩⟩,?_,by simp⟩
 ·intro r e;simp only [Value.ownBlock,o_] at e;exact c r (by omega)
 ·intro i u x a b
  match i,a,b with
  | 0,a,b =>simp only [List.getElem?_cons_zero,o_] at a b;subst a b;exact AN.up 1 _ _ _ (by omega) rfl
  | 1,a,b =>simp only [List.getElem?_cons_succ,List.getElem?_cons_zero,o_] at a b;subst a b;exact h.later (r_.alloc n_ o)
  | (i+2),a,b=>simp at a
theorem uJ{p:Pl.PR}(h:Pl.pd n l=some p):∃m,n=m+1:=by
 cases n with
 | zero=>simp [Pl.pd] at h
 | succ m=>exact⟨m,rfl⟩
theorem qM(n:Nat)(U:LJ n)(w:World)(b:Nat)(rest:Value)(r:List (List UInt8))(d c:Nat)(g:Bool)(h:EW w b rest d c g)(V:DG w rest r)(D:GE w)(E:6<b)(Z:r.length<=n)(hr:r.length<=1000)(hd:d+1+r.length<=2000)(aa:d<=c)(F:∀t∈r,N_ t) :Calls prog 187 #[.pointer (some ⟨b,0,none⟩)] w fun e w'=>PQPost n w b d c g r e w':=by
 have HI:=h_ U;have W:=h_ h;have HT:=h_ V;have J:=h_ D;have K:=h_ F;clear U h V D F;go_enter func187,ntmps187;go_wp2_with fail;refine(u7 w b rest d c g W (by omega)).mono ?_;rintro e w1 ⟨rfl,G,l⟩;have i:=h_ G;have L:=h_ l;clear G l;go_wp2_with fail;refine(HI w1 b rest r (d+1) (max c (d+1)) g L (HT.grown i W) (J.grown i E) E Z hr (by omega) (by omega) K).mono ?_;rintro e w2 ⟨y,a⟩;have z:=h_ (aC i y)
 cases A:Pl.pd n r with
 | none =>rw [A] at a;obtain⟨s,rfl⟩:=a;have B:=h_ A;unfold aY;clear y A;go_wp2_with fail;go_ret2;refine⟨z,?_⟩;rw [B.out];exact⟨s,rfl⟩
 | some p =>rw [A] at a;obtain⟨v,X,rfl,f,o,q⟩:=a;have B:=h_ A;obtain⟨m,rfl⟩:=uJ A;obtain⟨T,x,rfl,M⟩:=f.iface;have N:=i.size;have O:Hid (AN (fun k=>w.heap.size<=k) (m+1) w2 (.iface T x) p.t):=AN.mono (fun k _ P=>t_ N P) _ _ _ f;have C:=h_ o;have Q:=h_ q;clear A y f o q M;go_wp2_with fail;refine(oW _ b _ _ _ _ C (by omega)).mono ?_;rintro e Y ⟨rfl,j,u⟩;have H:=h_ j;have R:=h_ u;have I:Hid (AN (fun k=>w.heap.size<=k) (m+1) Y (.iface T x) p.t):=AN.keep (GA.DX j C (by decide)) _ _ _ O;have S:w.heap.size<=Y.heap.size:=t_ z.size j.size;clear j u;go_wp2_with fail;go_ret2;refine⟨aC z (aC H (World.grownBy_alloc _ _ _)),?_⟩;rw [B.out];refine⟨_,_,rfl,rS I (fun k P=>t_ S P) _ rfl,(R.alloc _).cast (by omega) (by omega) rfl,?_⟩;exact(Q.grown H C).below b_
theorem cY{w':World}{b dep dpst:Nat}{g:Bool}{p:Pl.PR}{v rest':Value}{d:Int}{g':Bool}(c:Pl.pd n l=some p)(i:w.grownBy w' (some b))(a:AN (fun k=>w.heap.size<=k) n w' v p.t)(e:EW w' b rest' dep d g')(j:d=((max dpst (dep+p.dp):Nat):Int))(f:g'=(g||p.gr))(h:DG w' rest' p.q):F1 n w b dep dpst g l (.returned (.tuple #[v,.nilIface])) w':=by refine⟨i,?_⟩;rw [c];exact⟨v,rest',rfl,a,e.cast rfl j f,h⟩
theorem jH(n:Nat)(w:World)(b:Nat)(rest:Value)(c a:Nat)(g:Bool)(h:EW w b rest c a g)(i:DG w rest []) :Calls prog 148 #[.pointer (some ⟨b,0,none⟩)] w fun e f=>F1 n w b c a g [] e f:=by
 obtain⟨l,j,rfl,_⟩:=i;obtain⟨k,m,o,p⟩:=h.cells;have d:Hid (Pl.pd n []=none):=by cases n<;>rfl
 simp only [z_] at k;clear h;go_enter func148,ntmps148;go_wp2_with (go_at_call 78;refine(bJ _ _ _).mono ?_;rintro e f ⟨rfl,rfl⟩);go_ret2;refine⟨World.grownBy.refl _ _,?_⟩;rw [d.out];exact⟨_,rfl⟩
theorem bU{b:Nat}{x:Value}{o:Obj}:w.grownBy ((w.setCell ⟨b,0,none⟩ x).alloc o) (some b):=aC (aE _ _ _ _) (World.grownBy_alloc _ _ _)
theorem nJ(n:Nat)(w:World)(b:Nat)(rest:Value)(r:List (List UInt8))(c a:Nat)(g:Bool)(h:EW w b rest c a g)(l:DG w rest ([35,116]::r))(o:c<=a) :Calls prog 148 #[.pointer (some ⟨b,0,none⟩)] w fun e p=>F1 (n+1) w b c a g ([35,116]::r) e p:=by
 have d:Hid (_=_):=Pl.QK n [35,116] r rfl;obtain⟨y,q,s,f,m,t,u,z,i⟩:=l.cons;subst f;have j:=h_ i;have k:=h_ h;obtain⟨A,B,C,D⟩:=h.cells;have E:=aF h 0;have v:b<w.heap.size:=aB h;have F:((r.length:Int)+1==0)=false:=by simp;omega
 clear i h l;rw [show cE [35,116]=3 from rfl] at u;go_enter func148,ntmps148;go_wp2_with fail
 ·go_ret2;exact cY d (aC (aE _ _ _ _) (World.grownBy_alloc _ _ _)) (AN.up 1 _ _ _ (by omega) rfl) ((k.IM _).alloc _) (by dsimp only;omega) (by simp) (((j _ _ (by omega) (by intro x;first | rfl | (exfalso;omega))).grown (aE _ _ _ _) k).below b_)
 ·go_ret2;exact cY d (aC (aE _ _ _ _) (World.grownBy_alloc _ _ _)) (AN.up 1 _ _ _ (by omega) rfl) ((k.IM _).alloc _) (by dsimp only;omega) (by simp) (((j _ _ (by omega) (by intro x;first | rfl | (exfalso;omega))).grown (aE _ _ _ _) k).below b_)
theorem lW(n:Nat)(w:World)(b:Nat)(rest:Value)(r:List (List UInt8))(c a:Nat)(g:Bool)(h:EW w b rest c a g)(l:DG w rest ([35,102]::r))(o:c<=a) :Calls prog 148 #[.pointer (some ⟨b,0,none⟩)] w fun e p=>F1 (n+1) w b c a g ([35,102]::r) e p:=by
 have d:Hid (_=_):=Pl.NQ n [35,102] r rfl;obtain⟨y,q,s,f,m,t,u,z,i⟩:=l.cons;subst f;have j:=h_ i;have k:=h_ h;obtain⟨A,B,C,D⟩:=h.cells;have E:=aF h 0;have v:b<w.heap.size:=aB h;have F:((r.length:Int)+1==0)=false:=by simp;omega
 clear i h l;rw [show cE [35,102]=3 from rfl] at u;go_enter func148,ntmps148;go_wp2_with fail
 ·go_ret2;exact cY d (aC (aE _ _ _ _) (World.grownBy_alloc _ _ _)) (AN.up 1 _ _ _ (by omega) rfl) ((k.IM _).alloc _) (by dsimp only;omega) (by simp) (((j _ _ (by omega) (by intro x;first | rfl | (exfalso;omega))).grown (aE _ _ _ _) k).below b_)
 ·go_ret2;exact cY d (aC (aE _ _ _ _) (World.grownBy_alloc _ _ _)) (AN.up 1 _ _ _ (by omega) rfl) ((k.IM _).alloc _) (by dsimp only;omega) (by simp) (((j _ _ (by omega) (by intro x;first | rfl | (exfalso;omega))).grown (aE _ _ _ _) k).below b_)
theorem lX(n:Nat)(w:World)(b:Nat)(rest:Value)(r:List (List UInt8))(c a:Nat)(g:Bool)(h:EW w b rest c a g)(j:DG w rest ([41]::r)) :Calls prog 148 #[.pointer (some ⟨b,0,none⟩)] w fun e k=>F1 (n+1) w b c a g ([41]::r) e k:=by
 have d:Hid (_=_):=Pl.NR n [41] r rfl;obtain⟨u,m,o,f,l,p,q,v,i⟩:=j.cons;subst f;have s:=h_ i;have x:=h_ h;obtain⟨y,z,A,B⟩:=h.cells;have C:=aF h 0;have t:b<w.heap.size:=aB h;have D:((r.length:Int)+1==0)=false:=by simp;omega
 clear i h j;rw [show cE [41]=1 from rfl] at q;go_enter func148,ntmps148;go_wp2_with (go_at_call 78;refine(bJ _ _ _).mono ?_;rintro e k ⟨rfl,rfl⟩)
 ·go_ret2;refine⟨bU,?_⟩;rw [d.out];exact⟨_,rfl⟩
 ·go_ret2;refine⟨bU,?_⟩;rw [d.out];exact⟨_,rfl⟩
theorem nK(n:Nat)(N:LJ n)(w:World)(b:Nat)(rest:Value)(r:List (List UInt8))(o f:Nat)(g:Bool)(h:EW w b rest o f g)(B:DG w rest ([40]::r))(C:GE w)(u:6<b)(O:([40]::r).length<=n+1)(P:([40]::r).length<=1000)(Q:o+([40]::r).length<=2000)(D:o<=f)(E:∀t∈[40]::r,N_ t) :Calls prog 148 #[.pointer (some ⟨b,0,none⟩)] w fun e S=>F1 (n+1) w b o f g ([40]::r) e S:=by
 have c:=Pl.GH n [40] r rfl;obtain⟨g0,T,U,F,R,V,W,k1,G⟩:=B.cons;subst F;have H:=h_ G;have L:=h_ h;obtain⟨c0,c1,c2,c3⟩:=h.cells;have f0:=aF h 0;have X:b<w.heap.size:=aB h;have hz:((r.length:Int)+1==0)=false:=by simp;omega
 clear G h B;have I:=h_ C;have J:=h_ E;clear C E;rw [show cE [40]=0 from rfl] at W;go_enter func148,ntmps148;go_wp2_with fail
 ·refine(S6 n N _ b _ r o f g ((L.IM _).alloc _) ((((H _ _ (by omega) (by intro Y;first | rfl | (exfalso;omega))).grown (aE _ _ _ _) L).below b_)) (I.grown bU u) u (by simp at O;omega) (by simp at P;omega) (by simp at Q;omega) D (fun t B=>J.out t (List.mem_cons_of_mem _ B))).mono ?_;rintro e Z ⟨m,a⟩;have q:=h_ (aC bU m)
  cases x:Pl.IG (Pl.pd n) r.length r with
  | none =>rw [x] at a c;obtain⟨s,rfl⟩:=a;clear m x;have d:=h_ c;clear c;unfold aY;go_wp2_with fail;go_ret2;refine⟨q,?_⟩;rw [d.out];exact⟨s,rfl⟩
  | some p =>rw [x] at a c;obtain⟨v,K,rfl,i,j,l⟩:=a;have y:=h_ i;have z:=h_ j;have A:=h_ l;have d:=h_ c;clear m i j l x c;go_wp2_with fail;go_ret2;exact cY d q (AN.mono (fun k _ M=>by simp at M;omega) _ _ _ y) z (by dsimp only;omega) rfl A
 ·refine(S6 n N _ b _ r o f g ((L.IM _).alloc _) ((((H _ _ (by omega) (by intro Y;first | rfl | (exfalso;omega))).grown (aE _ _ _ _) L).below b_)) (I.grown bU u) u (by simp at O;omega) (by simp at P;omega) (by simp at Q;omega) D (fun t B=>J.out t (List.mem_cons_of_mem _ B))).mono ?_;rintro e Z ⟨m,a⟩;have q:=h_ (aC bU m)
  cases x:Pl.IG (Pl.pd n) r.length r with
  | none =>rw [x] at a c;obtain⟨s,rfl⟩:=a;clear m x;have d:=h_ c;clear c;unfold aY;go_wp2_with fail;go_ret2;refine⟨q,?_⟩;rw [d.out];exact⟨s,rfl⟩
  | some p =>rw [x] at a c;obtain⟨v,K,rfl,i,j,l⟩:=a;have y:=h_ i;have z:=h_ j;have A:=h_ l;have d:=h_ c;clear m i j l x c;go_wp2_with fail;go_ret2;exact cY d q (AN.mono (fun k _ M=>by simp at M;omega) _ _ _ y) z (by dsimp only;omega) rfl A
theorem lV(n:Nat)(N:LJ n)(w:World)(b:Nat)(rest:Value)(r:List (List UInt8))(o f:Nat)(g:Bool)(h:EW w b rest o f g)(B:DG w rest ([39]::r))(C:GE w)(u:6<b)(O:([39]::r).length<=n+1)(P:([39]::r).length<=1000)(Q:o+([39]::r).length<=2000)(D:o<=f)(E:∀t∈[39]::r,N_ t) :Calls prog 148 #[.pointer (some ⟨b,0,none⟩)] w fun e S=>F1 (n+1) w b o f g ([39]::r) e S:=by
 have c:=Pl.H6 n [39] r rfl;obtain⟨g0,T,U,F,R,V,W,k1,G⟩:=B.cons;subst F;have H:=h_ G;have L:=h_ h;obtain⟨c0,c1,c2,c3⟩:=h.cells;have f0:=aF h 0;have X:b<w.heap.size:=aB h;have hz:((r.length:Int)+1==0)=false:=by simp;omega
 clear G h B;have I:=h_ C;have J:=h_ E;clear C E;rw [show cE [39]=2 from rfl] at W;go_enter func148,ntmps148;go_wp2_with fail
 ·refine(qM n N _ b _ r o f g ((L.IM _).alloc _) ((((H _ _ (by omega) (by intro Y;first | rfl | (exfalso;omega))).grown (aE _ _ _ _) L).below b_)) (I.grown bU u) u (by simp at O;omega) (by simp at P;omega) (by simp at Q;omega) D (fun t B=>J.out t (List.mem_cons_of_mem _ B))).mono ?_;rintro e Z ⟨m,a⟩;have q:=h_ (aC bU m)
  cases x:Pl.pd n r with
  | none =>rw [x] at a c;obtain⟨s,rfl⟩:=a;clear m x;have d:=h_ c;clear c;unfold aY;go_wp2_with fail;go_ret2;refine⟨q,?_⟩;rw [d.out];exact⟨s,rfl⟩
  | some p =>rw [x] at a c;obtain⟨v,K,rfl,i,j,l⟩:=a;have y:=h_ i;have z:=h_ j;have A:=h_ l;have d:=h_ c;clear m i j l x c;go_wp2_with fail;go_ret2;exact cY d q (AN.mono (fun k _ M=>by simp at M;omega) _ _ _ y) z (by dsimp only;omega) rfl A
 ·refine(qM n N _ b _ r o f g ((L.IM _).alloc _) ((((H _ _ (by omega) (by intro Y;first | rfl | (exfalso;omega))).grown (aE _ _ _ _) L).below b_)) (I.grown bU u) u (by simp at O;omega) (by simp at P;omega) (by simp at Q;omega) D (fun t B=>J.out t (List.mem_cons_of_mem _ B))).mono ?_;rintro e Z ⟨m,a⟩;have q:=h_ (aC bU m)
  cases x:Pl.pd n r with
  | none =>rw [x] at a c;obtain⟨s,rfl⟩:=a;clear m x;have d:=h_ c;clear c;unfold aY;go_wp2_with fail;go_ret2;refine⟨q,?_⟩;rw [d.out];exact⟨s,rfl⟩
  | some p =>rw [x] at a c;obtain⟨v,K,rfl,i,j,l⟩:=a;have y:=h_ i;have z:=h_ j;have A:=h_ l;have d:=h_ c;clear m i j l x c;go_wp2_with fail;go_ret2;exact cY d q (AN.mono (fun k _ M=>by simp at M;omega) _ _ _ y) z (by dsimp only;omega) rfl A
theorem sZ{t:List UInt8}(h:¬cE t<4):¬t=[41]/\¬t=[35,116]/\¬t=[35,102]/\¬t=[39]/\¬t=[40]/\cE t=if Pl.isNum t then 4 else 5:=by
 unfold cE at h ⊢;by_cases a:t=[40]
 ·exact absurd (by simp [a]) h
 by_cases b:t=[41]
 ·exact absurd (by simp [b]) h
 by_cases c:t=[39]
 ·exact absurd (by simp [c]) h
 by_cases d:t=[35,116]
 ·exact absurd (by simp [d]) h
 by_cases e:t=[35,102]
 ·exact absurd (by simp [e]) h
 rw [if_neg a,if_neg b,if_neg c,if_neg (by simp [d,e])];exact⟨b,d,e,c,a,rfl⟩
theorem kind_low{t:List UInt8}(h:cE t<4):t=[41]\/t=[35,116]\/t=[35,102]\/t=[39]\/t=[40]:=by
 unfold cE at h;by_cases a:t=[40]
 ·exact .inr (.inr (.inr (.inr a)))
 by_cases b:t=[41]
 ·exact .inl b
 by_cases c:t=[39]
 ·exact .inr (.inr (.inr (.inl c)))
 by_cases d:t=[35,116]
 ·exact .inr (.inl d)
 by_cases e:t=[35,102]
 ·exact .inr (.inr (.inl e))
 rw [if_neg a,if_neg b,if_neg c,if_neg (by simp [d,e])] at h;split at h<;>omega
theorem nL(n:Nat)(w:World)(b:Nat)(rest:Value)(t:List UInt8)(r:List (List UInt8))(c a:Nat)(g:Bool)(h:EW w b rest c a g)(m:DG w rest (t::r))(q:c<=a)(o:cE t=5)(d:Pl.pd (n+1) (t::r)=some ⟨.lit (.string t),r,0,false⟩) :Calls prog 148 #[.pointer (some ⟨b,0,none⟩)] w fun e s=>F1 (n+1) w b c a g (t::r) e s:=by
 have f:=h_ d;clear d;obtain⟨B,u,v,i,p,x,y,C,j⟩:=m.cons;subst i;have k:=h_ j;have l:=h_ h;obtain⟨D,E,F,G⟩:=h.cells;have H:=aF h 0;have z:b<w.heap.size:=aB h;have I:((r.length:Int)+1==0)=false:=by simp;omega
 clear j h m;rw [o] at y;clear o;go_enter func148,ntmps148;go_wp2_with fail
 ·go_ret2;exact cY f (aC (aE _ _ _ _) (World.grownBy_alloc _ _ _)) (AN.up 1 _ _ _ (by omega) rfl) ((l.IM _).alloc _) (by dsimp only;omega) (by simp) (((k _ _ (by omega) (by intro A;first | rfl | (exfalso;omega))).grown (aE _ _ _ _) l).below b_)
 ·go_ret2;exact cY f (aC (aE _ _ _ _) (World.grownBy_alloc _ _ _)) (AN.up 1 _ _ _ (by omega) rfl) ((l.IM _).alloc _) (by dsimp only;omega) (by simp) (((k _ _ (by omega) (by intro A;first | rfl | (exfalso;omega))).grown (aE _ _ _ _) l).below b_)
theorem p_datum_num(n:Nat)(w:World)(b:Nat)(rest:Value)(t:List UInt8)(r:List (List UInt8))(d a:Nat)(g:Bool)(h:EW w b rest d a g)(C:DG w rest (t::r))(l:GE w)(m:6<b)(H:d<=a)(D:cE t=4)(E:Pl.isNum t=true)(o:0<t.length)(p:t.length<=1000)(q:Pl.pd (n+1) (t::r)=some ⟨.lit (.int .i64 (Pl.F3 t)),r,0,Pl.ER t⟩) :Calls prog 148 #[.pointer (some ⟨b,0,none⟩)] w fun e I=>F1 (n+1) w b d a g (t::r) e I:=by
 have s:=h_ q;have F:=h_ E;have u:=h_ l;clear q E l;obtain⟨Q,J,K,v,G,L,M,R,x⟩:=C.cons;subst v;have y:=h_ x;have j:=h_ h;obtain⟨S,T,U,V⟩:=h.cells;have W:=aF h 0;have N:b<w.heap.size:=aB h;have X:((r.length:Int)+1==0)=false:=by simp;omega
 clear x h C;rw [D] at M;clear D;go_enter func148,ntmps148;go_wp2_with fail
 ·refine(qO _ b _ d a g _ ((j.IM _).alloc _) (u.grown bU m) (by simpa [ByteArray.size] using p) (by simpa [ByteArray.size] using o) (by simpa using F.out)).mono ?_;rintro e O ⟨k,rfl,f,i,c⟩;have A:=h_ f;have z:=h_ i;have B:=h_ c;clear f i c;go_wp2_with fail;go_ret2;refine cY s (aC bU z) ⟨_,rfl,A⟩ B (by dsimp only;omega) (by simp) ?_;exact((((y _ _ (by omega) (by intro P;first | rfl | (exfalso;omega))).grown (aE _ _ _ _) j).below b_)).grown z ((j.IM _).alloc _)
 ·refine(qO _ b _ d a g _ ((j.IM _).alloc _) (u.grown bU m) (by simpa [ByteArray.size] using p) (by simpa [ByteArray.size] using o) (by simpa using F.out)).mono ?_;rintro e O ⟨k,rfl,f,i,c⟩;have A:=h_ f;have z:=h_ i;have B:=h_ c;clear f i c;go_wp2_with fail;go_ret2;refine cY s (aC bU z) ⟨_,rfl,A⟩ B (by dsimp only;omega) (by simp) ?_;exact((((y _ _ (by omega) (by intro P;first | rfl | (exfalso;omega))).grown (aE _ _ _ _) j).below b_)).grown z ((j.IM _).alloc _)
theorem vB:∀n,LJ n
 | 0=>by intro w b a l d c g h j k m s x y e o;obtain rfl:=e_ (Nat.le_zero.1 s);exact jH 0 w b a d c g h j
 | n+1=>by
  intro w b a l d c g h j k m s x y e o;have B:=vB n
  cases l with
  | nil=>exact jH _ w b a d c g h j
  | cons t r =>
   by_cases i:cE t<4
   ·rcases kind_low i with p | p | p | p | p<;>subst p
    ·exact lX n w b a r d c g h j
    ·exact nJ n w b a r d c g h j e
    ·exact lW n w b a r d c g h j e
    ·exact lV n B w b a r d c g h j k m s x y e o
    ·exact nK n B w b a r d c g h j k m s x y e o
   ·obtain⟨p,C,D,E,F,u⟩:=sZ i;have f:=Pl.QJ n t r p C D E F;obtain⟨q,z,A⟩:=o t (List.mem_cons_self ..);unfold Pl.pw at f;by_cases v:Pl.isNum t=true
    ·rw [if_pos v] at u f;exact p_datum_num n w b a t r d c g h j k m e u v z A f
    ·have G:Pl.DZ t=true:=by
      rcases q with q | q | q
      ·exact absurd q i
      ·exact absurd q v
      ·exact q
     rw [if_neg v] at u f;rw [if_pos G] at f;exact nL n w b a t r d c g h j e u f
def PWPost(n:Nat)(w:World)(b dpst:Nat)(g:Bool)(l:List (List UInt8))(e:Ending)(w':World):Prop :=
 w.grownBy w' (some b) /\
 ((∃s,e=.returned (.tuple #[.nilIface,aY s 2])/\∀p,Pl.pd n l=some p->p.q≠[]) \/
  ∃p v rest',Pl.pd n l=some p/\p.q=[]/\e=.returned (.tuple #[v,.nilIface])/\AN (fun k=>w.heap.size<=k) n w' v p.t/\EW w' b rest' 0 ((max dpst p.dp:Nat):Int) (g||p.gr))
theorem jq(n:Nat)(w:World)(b:Nat)(rest:Value)(l:List (List UInt8))(g:Bool)(h:EW w b rest 0 0 g)(F:DG w rest l)(k:GE w)(u:6<b)(J:l.length<=n)(K:l.length<=1000)(m:∀t∈l,N_ t) :Calls prog 109 #[.pointer (some ⟨b,0,none⟩)] w fun e G=>PWPost n w b 0 g l e G:=by
 have L:=h_ h;have M:=h_ F;have y:=h_ k;have z:=h_ m;clear h F k m;go_enter func109,ntmps109;go_wp2_with fail;refine(vB n w b rest l 0 0 g L M y u J K (by omega) (by omega) z).mono ?_;rintro e O ⟨o,a⟩;have i:=h_ o;clear o
 cases j:Pl.pd n l with
 | none =>rw [j] at a;obtain⟨s,rfl⟩:=a;unfold aY;have r:=h_ j;clear j;go_wp2_with fail;go_ret2;exact⟨i,.inl ⟨_,rfl,fun p c=>by rw [r.out] at c;simp at c⟩⟩
 | some p =>
  rw [j] at a;obtain⟨v,H,rfl,d,f,q⟩:=a;obtain⟨T,x,rfl,A⟩:=d.iface;have r:=h_ j;have B:=h_ d;have C:=h_ f;obtain⟨P,Q,R,S⟩:=f.cells;obtain⟨U,N,rfl,_⟩:=q;clear d f j A;by_cases c:p.q=[]
  ·have I:(p.q.length:Int)=0:=by simp [c]
   have D:((0:Int)<(p.q.length:Int))=False:=by simp [c]
   have E:=h_ c;clear c;go_wp2_with fail;go_ret2;exact⟨i,.inr ⟨p,_,_,r,E,rfl,B,C.cast (by simp) (by simp) rfl⟩⟩
  ·have D:(0:Int)<(p.q.length:Int):=by have:=List.length_pos_iff.2 c;omega
   have E:=h_ c;clear c;go_wp2_with (go_at_call 78;refine(bJ _ _ _).mono ?_;rintro e G ⟨rfl,rfl⟩);go_ret2;exact⟨i,.inl ⟨_,rfl,fun V c=>by rw [r.out] at c;obtain rfl:=i_ c;exact E⟩⟩
theorem fQ:∀(n:Nat)(k:List UInt8) (l:List (List UInt8)),Pl.KO n k=some l->∀t∈l,cE t<4\/CV (t.headD 0)=true
 | 0,_,_,h=>by obtain rfl:=i_ h;simp
 | _+1,[],_,h=>by obtain rfl:=i_ h;simp
 | n+1,c::r,l,h=>by
  unfold Pl.KO at h;split at h
  ·exact fQ n r l h
  split at h
  ·rename_i g
   cases r with
   | nil=>simp at h
   | cons d q =>
    dsimp only at h;split at h
    ·rename_i i;simp only [Option.map_eq_some_iff] at h;obtain⟨b,e,rfl⟩:=h;have f:=fQ n q b e;intro t a;rcases List.mem_cons.1 a with rfl | a
     ·left;simp only [Bool.or_eq_true,beq_iff_eq] at i g;subst g;rcases i with rfl | rfl<;>decide
     ·exact f t a
    ·simp at h
  split at h
  ·rename_i m;simp only [Option.map_eq_some_iff] at h;obtain⟨b,e,rfl⟩:=h;have f:=fQ n _ b e;intro t a;rcases List.mem_cons.1 a with rfl | a
   ·exact .inr m
   ·exact f t a
  split at h
  ·rename_i j;simp only [Option.map_eq_some_iff] at h;obtain⟨b,e,rfl⟩:=h;have f:=fQ n r b e;intro t a;rcases List.mem_cons.1 a with rfl | a
   ·left;simp only [Pl.H2,Bool.or_eq_true,beq_iff_eq] at j;rcases j with(rfl | rfl) | rfl<;>decide
   ·exact f t a
  ·simp at h
theorem dR(h:bF bs=some l):Pl.BX bs=some l/\l.all Pl.BF=true:=by
 unfold bF at h;split at h
 ·simp at h
 ·rename_i b a;split at h
  ·obtain rfl:=i_ h;exact⟨a,by assumption⟩
  ·simp at h
theorem LS(h:bF bs=none):Pl.BX bs=none\/∃l,Pl.BX bs=some l/\l.all Pl.BF=false:=by
 unfold bF at h;split at h
 ·left;assumption
 ·rename_i c a;split at h
  ·simp at h
  ·rename_i b;exact .inr ⟨_,a,by simpa using b⟩
theorem sT(h:bF bs=some l)(j:bs.length<=1000):l.length<=bs.length/\∀t∈l,N_ t:=by
 obtain⟨d,e⟩:=dR h;obtain⟨f,g⟩:=Pl.F2 d;refine⟨f,fun t a=>?_⟩;obtain⟨i,k⟩:=g t a;refine⟨?_,i,by omega⟩;rcases fQ _ _ _ d t a with b | b
 ·exact .inl b
 ·have c:=List.all_eq_true.1 e t a;unfold Pl.BF at c;rw [b] at c;right;simpa using c
theorem kX(h:300<bs.length):Pl.check bs=1:=by unfold Pl.check;rw [if_pos h]
theorem pT(h:¬300<bs.length)(b:bF bs=none):Pl.check bs=2:=by
 unfold Pl.check;rw [if_neg h];rcases LS b with a | ⟨l,a,c⟩
 ·rw [a]
 ·rw [a];dsimp only;rw [if_pos c]
theorem aAM(h:¬300<bs.length)(a:bF bs=some l)(b:∀p,Pl.pd l.length l=some p->p.q≠[]):Pl.check bs=2:=by
 obtain⟨c,d⟩:=dR a;unfold Pl.check;rw [if_neg h,c];dsimp only;rw [if_neg (by simp [d])]
 cases e:Pl.pd l.length l with
 | none=>rfl
 | some p=>dsimp only;rw [if_pos (b p e)]
theorem aAN{p:Pl.PR}(h:¬300<bs.length)(a:bF bs=some l)(hp:Pl.pd l.length l=some p)(b:p.q=[]):Pl.check bs=if 20<p.dp then 3 else if p.gr=true then 4 else if Pl.GY (l.length-1) p.t=true then 0 else 5:=by obtain⟨c,d⟩:=dR a;unfold Pl.check;rw [if_neg h,c];dsimp only;rw [if_neg (by simp [d]),hp];dsimp only;rw [if_neg (by simp [b])]
theorem kL{a b c:World}{B:Nat}{B2:Nat}(d:Below B a b)(h:b.grownBy c (some B2))(i:B<=B2)(g:B<=a.heap.size):Below B a c :=⟨h.os.trans d.os,h.tape.trans d.tape,h.output.trans d.output,t_ d.size h.size,fun k f=>(h.block k (l_ f (t_ g d.size)) (fun e=>by obtain rfl:=i_ e;omega)).trans (d.block k f)⟩
def RdPost(w:World)(bs:List UInt8)(e:Ending)(w':World):Prop :=
 Below w.heap.size w w' /\
 ((∃(c:Nat)(s:ByteArray),Pl.check bs=c/\0<c/\c<=5/\e=.returned (.tuple #[.nilIface,aY s c])) \/
  ∃l p v,bF bs=some l/\l.length<=300/\Pl.pd l.length l=some p/\p.gr=false/\Pl.check bs=(if Pl.GY (l.length-1) p.t=true then 0 else 5)/\e=.returned (.tuple #[v,.nilIface])/\AN (fun k=>w.heap.size<=k) l.length w' v p.t)
theorem XO(s:ByteArray)(w:World)(n:GE w) :Calls prog 64 #[.string s] w fun e C=>RdPost w s.data.toList e C:=by
 have D:=h_ n;have m:s.data.toList.length=s.size:=by simp
 clear n;by_cases V:300<s.size
 ·have h:Hid (Pl.check s.data.toList=1):=kX (by omega);have E:(300:Int)<(s.size:Int):=by omega
  go_enter func64,ntmps64
  go_wp2_with (go_at_call 78;refine(bJ _ _ _).mono ?_;rintro e C ⟨rfl,rfl⟩)
  go_ret2;exact⟨r_,.inl ⟨1,_,h,by omega,by omega,rfl⟩⟩
 ·have E:¬(300:Int)<(s.size:Int):=by omega
  have F:Hid (¬300<s.data.toList.length):=by rw [m];exact V
  have o:=h_ m;clear m;go_enter func64,ntmps64;go_wp2_with fail;refine(XD s w (by omega)).mono ?_;rintro e P ⟨q,a⟩;have d:=h_ q;clear q;rcases a with⟨f,v,W,rfl⟩ | ⟨l,v,b,rfl,k⟩
  ·have h:=h_ (pT F f);clear f;unfold aY;go_wp2_with fail;go_ret2;exact⟨d,.inl ⟨2,_,h,by omega,by omega,rfl⟩⟩
  ·have G:=h_ b;have Q:=h_ (DG.of_own k);obtain⟨R,r,rfl,_⟩:=Q.out;obtain⟨H,t⟩:=sT b (by rw [o.out];omega);rw [o.out] at H;have I:=h_ t;have u:=h_ (D.below d);have J:=u.lt;clear t b k;go_wp2_with fail;have y:Hid (Below w.heap.size w (P.alloc (.cells #[.slice R l.length r,.int .i64 0,.int .i64 0,.bool false] PR (0,0)))):=d.alloc (d.size) _;have z:=d.size;refine(jq l.length _ P.heap.size (.slice R l.length r) l false (heap_alloc_new _ _) (Q.below b_) (u.below b_) J n_ (by omega) I).mono ?_;rintro e X ⟨A,a⟩;have i:Hid (Below w.heap.size w X):=kL y A z n_;clear A;rcases a with⟨W,rfl,f⟩ | ⟨p,v,S,K,U,rfl,g,B⟩
   ·have h:=h_ (aAM F G f);clear f;unfold aY;go_wp2_with fail;go_ret2;exact⟨i,.inl ⟨2,_,h,by omega,by omega,rfl⟩⟩
   ·have h:=h_ (aAN F G K U);have L:=h_ g;have Y:=h_ K;obtain⟨T,x,rfl,_⟩:=g.iface;obtain⟨c0,c1,Z,M⟩:=B.cells;rw [show max 0 p.dp=p.dp by omega] at Z;rw [Bool.false_or] at M;clear g B K U;by_cases N:20<p.dp
    ·have O:(20:Int)<(p.dp:Int):=by omega
     go_wp2_with (go_at_call 78;refine(bJ _ _ _).mono ?_;rintro e C ⟨rfl,rfl⟩)
     go_ret2;exact⟨i,.inl ⟨3,_,h.trans (if_pos N),by omega,by omega,rfl⟩⟩
    ·have O:¬(20:Int)<(p.dp:Int):=by omega
     cases c:p.gr
     ·rw [c] at M;have j:=h_ c;clear c;go_wp2_with fail;go_ret2;refine⟨i,.inr ⟨l,p,_,G,by omega,Y,j,h.trans ?_,rfl,AN.mono (fun _ _ hk=>t_ y.size hk) _ _ _ L⟩⟩;rw [if_neg N,if_neg (by simp [j.out])]
     ·rw [c] at M;have j:=h_ c;clear c;go_wp2_with (go_at_call 78;refine(bJ _ _ _).mono ?_;rintro e C ⟨rfl,rfl⟩);go_ret2;exact⟨i,.inl ⟨4,_,h.trans (by rw [if_neg N,if_pos j.out]),by omega,by omega,rfl⟩⟩
end
end Go.Proofs.YtkgbdddkcjpgfaaGreatDoor
