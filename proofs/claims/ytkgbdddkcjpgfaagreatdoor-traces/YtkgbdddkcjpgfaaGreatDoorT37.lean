import Derived.Test.YtkgbdddkcjpgfaaGreatDoorT32
namespace Go.Proofs.YtkgbdddkcjpgfaaGreatDoor
set_option maxHeartbeats 4000000
set_option maxRecDepth 100000
open Go.Proofs.Tryz
open Pl (PV FR AE AD BB BN EE EF isName)
section
open Go.RowKit
variable {M:Nat->Prop} {w w':World} {tb mb z n:Nat}
theorem p_let(n:Nat)(hF:GB n)(hL:JG n)(M:Nat->Prop)(w:World)(s:Sg)(tb mb:Nat)(ps:List (PV×PV))(sl:Value)(vs:List Value)(ts:List Tr)(hR:BM M w s tb mb ps)(hS:CD M w sl vs)(hA:C9 M n w vs ts)(hB:∀x∈ts,cL n x)(hz:s.ns.length+(ts.map (BB n)).sum<=BS)(o:FR)(ho:o=EF (Pl.J8 (AD n) ts) ps.length) :Calls prog 155 #[D2 tb,sl] w fun e E=>A5 M w s tb mb ps o (ts.map (BB n)).sum e E:=by
 obtain⟨i0,ad,av,aw,ax⟩:=info_parts Tryz.TX;have dm:=Tryz.EO;have dn:=Tryz.E7;have dp:=Tryz.FN;have dq:=Tryz.ET;have S:Hid (BM M w s tb mb ps):=hR;have bo:Hid (Below w.heap.size w (w.alloc (A0 tb))):=bB w _;have ch:Hid ((w.alloc (A0 tb)).heap[w.heap.size]?=some (A0 tb)):=heap_alloc_new _ _;have U:=hA.1;unfold D2;by_cases q:ts.length=2
 ·obtain⟨pr,G,rfl⟩:=fO q;obtain⟨u1,u2,rfl⟩:=fO (U.trans q);have r1:=hA.2 0 u1 pr rfl rfl;have r2:=hA.2 1 u2 G rfl rfl;obtain⟨g,F,ci,rfl,bp,hg,k0,ks⟩:=(Sl.C7 hS).cell0;have k1:=ks 0 _ rfl;simp only [Nat.zero_add,c_,z_] at k1 bp ⊢;have cj:Hid (AN (fun k=>¬M k) n w u2 G):=r2;have bq:Hid (cL n G/\cL n pr):=⟨hB G (by simp),hB pr (by simp)⟩
  obtain⟨T2,x2,rfl,L⟩:=r2.iface;have HF:Hid (GB n):=hF;have HL:Hid (JG n):=hL;have HO:Hid (o=EF (Pl.D5 (AD n) pr G) ps.length):=ho;have HZ:Hid (s.ns.length+(BB n pr+BB n G)<=BS/\([pr,G].map (BB n)).sum=BB n pr+BB n G):=⟨by simpa using hz,by simp⟩
  clear hA hS hF hL r2 U q ks L hR hB hz ho;by_cases ae:∃l,pr=.agg l
  ·obtain⟨l,rfl⟩:=ae
   obtain⟨m,rfl⟩:∃m,n=m+1:=by
    cases n with
    | zero=>exact r1.elim
    | succ m=>exact⟨m,rfl⟩
   obtain⟨sb,bs,rfl,ay,az,an⟩:=r1.RQ;have ba:=az.1;have ck:Hid (CD M w sb bs):=ay;obtain⟨ao,di,rfl,bb,V⟩:=Sl.C7 ay;rw [ba] at k0 bb;have HV:Hid (bs.length=l.length):=ba;have HC:Hid (∀(i:Nat)(u:Value),bs[i]?=some u->∃g F,ao=some ⟨g,F,none⟩/\g<w.heap.size/\w.cell? ⟨g,F+i,none⟩=some u):=V;have HA:Hid (C9 M m w bs l):=az;clear ba V az r1 ay ck;go_enter func155,ntmps155;go_wp2_with fail
   go_loopw [8,9,33] (fun nS vS i wr=>∃(k:Nat)(f c:List Value),k<=l.length/\i=.int .i64 k/\Hid (I5 (w.alloc (A0 tb)) wr k k nS vS f c)/\Hid ((l.take k).all Pl.BI=true)/\Hid (C9 M m w f ((l.take k).map Pl.DC))/\Hid (C9 M m w c ((l.take k).map Pl.BU))) (fun _ _ i _=>l.length-(intOf i).toNat)
   case atStart =>refine⟨0,[],[],Nat.zero_le _,rfl,?_,by simp [Hid],BY.nil _,BY.nil _⟩;have:=I5.start (w.alloc (A0 tb));rw [show(w.alloc (A0 tb)).heap.size=w.heap.size+1 from by simp] at this;exact this
   case round =>
    obtain⟨k,f,c,hk,rfl,W,HP,af,X⟩:=hrel
    have bc:Hid (Below (w.heap.size+1) (w.alloc (A0 tb)) wr):=show Below _ _ _ from by
     have:=W.below
     rwa [show(w.alloc (A0 tb)).heap.size=w.heap.size+1 from by simp] at this
    have H:Hid (Below w.heap.size w wr):=show Below _ _ _ from bo.trans (bc.mono (by omega));have dr:w.heap.size+1<=wr.heap.size:=by have:=bc.size;simpa using this
    by_cases br:k<l.length
    ·obtain⟨u,hu⟩:∃u,bs[k]?=some u:=⟨bs[k]'(by have:=HV.out;omega),g_ (by have:=HV.out;omega)⟩
     obtain⟨x,hx⟩:∃x,l[k]?=some x:=⟨l[k],g_ br⟩
     obtain⟨g1,ap,rfl,cl,hc⟩:=HC.out k u hu;have cm:wr.cell? ⟨g1,ap+k,none⟩=some u:=(H.cell (p:=⟨g1,ap+k,none⟩) cl).trans hc;have hr:=HA.2 k u x hu hx;have HX:Hid (l[k]?=some x):=hx;clear hu hx hc;have dj:(k:Int)<(l.length:Int):=by omega
     by_cases ag:∃xs,x=.agg xs
     ·obtain⟨xs,rfl⟩:=ag
      obtain⟨m',rfl⟩:∃m',m=m'+1:=by
       cases m with
       | zero=>exact hr.elim
       | succ m'=>exact⟨m',rfl⟩
      obtain⟨sx,vx,rfl,ah,N,_⟩:=hr.RQ;by_cases Y:xs.length=2
      ·obtain⟨x0,x1,rfl⟩:=fO Y;obtain⟨y0,y1,rfl⟩:=fO (N.1.trans Y);obtain⟨gx,I,bt,rfl,be,bu,z0,zs⟩:=(Sl.C7 ah).cell0;have z1:=zs 0 y1 rfl;simp only [Nat.zero_add,c_,z_] at z1 be cm;have bf:AN (fun k=>¬M k) (m'+1) w y0 x0:=AN.up _ _ _ _ (Nat.le_succ _) (N.2 0 y0 x0 rfl rfl);have bg:AN (fun k=>¬M k) (m'+1) w y1 x1:=AN.up _ _ _ _ (Nat.le_succ _) (N.2 1 y1 x1 rfl rfl);have cn:Hid ((l.take (k+1)).all Pl.BI=true):=eA HP HX rfl;have co:Hid (C9 M (m'+1) w (f++[y0]) ((l.take (k+1)).map Pl.DC)):=show BY _ _ _ from by rw [c8 _ HX.out];exact af.snoc bf
       have cp:Hid (C9 M (m'+1) w (c++[y1]) ((l.take (k+1)).map Pl.BU)):=show BY _ _ _ from by rw [c8 _ HX.out];exact X.snoc bg
       obtain⟨O,P,rfl,cq⟩:=bf.iface;obtain⟨ai,aj,rfl,cr⟩:=bg.iface;have ds:wr.cell? ⟨gx,I,none⟩=some (.iface O P):=(H.cell (p:=⟨gx,I,none⟩) bu).trans z0
       have cs:Hid (wr.ownsRow (w.heap.size+1) PT 1 u8 k f):=show World.ownsRow _ _ _ _ _ _ _ from by
        have:=W.G0
        rwa [show(w.alloc (A0 tb)).heap.size=w.heap.size+1 from by simp] at this
       have ct:Hid (∀(A:World)(R d:Nat)(o:Obj),A.ownsRow (w.heap.size+1) PT 1 (.slice (some ⟨R,0,none⟩) (k+1) d) (k+1) (f++[.iface O P])->(wr.alloc o).grownBy A u8.ownBlock->(u8.ownBlock=some R\/R=wr.heap.size+1)->I5 (w.alloc (A0 tb)) A (k+1) k (.slice (some ⟨R,0,none⟩) (k+1) d) u9 (f++[.iface O P]) c/\A.cell? ⟨gx,I+1,none⟩=some (.iface ai aj)/\w.heap.size+1<=A.heap.size/\A.ownsRow (w.heap.size+1) PT 1 u9 k c):=fun A R d o Q q h3=>by
        have hq:=W.S2 (o:=o) (by rw [show(w.alloc (A0 tb)).heap.size=w.heap.size+1 from by simp];exact Q) q h3;have e1:(w.alloc (A0 tb)).heap.size=w.heap.size+1:=by simp
        have bh:=hq.below;have Z:=hq.I6;rw [e1] at bh Z;have bv:Below w.heap.size w A:=bo.trans (bh.mono (by omega));exact⟨hq,(bv.cell (p:=⟨gx,I+1,none⟩) bu).trans z1,by have:=bh.size;omega,Z⟩
       have cu:Hid (∀(A w4:World)(R d g4 B:Nat)(o:Obj),I5 (w.alloc (A0 tb)) A (k+1) k (.slice (some ⟨R,0,none⟩) (k+1) d) u9 (f++[.iface O P]) c->w4.ownsRow (w.heap.size+1) PT 1 (.slice (some ⟨g4,0,none⟩) (k+1) B) (k+1) (c++[.iface ai aj])->(A.alloc o).grownBy w4 u9.ownBlock->(u9.ownBlock=some g4\/g4=A.heap.size+1)->I5 (w.alloc (A0 tb)) w4 (k+1) (k+1) (.slice (some ⟨R,0,none⟩) (k+1) d) (.slice (some ⟨g4,0,none⟩) (k+1) B) (f++[.iface O P]) (c++[.iface ai aj])):=fun A w4 R d g4 B o hq Q q h3 =>hq.S0 (o:=o) (by rw [show(w.alloc (A0 tb)).heap.size=w.heap.size+1 from by simp];exact Q) q h3;clear ah N zs Y HP af X bf bg hr W;go_wp2_with (first | (at_builtin;refine wpList_append_lies _ rfl _ _ 115 rfl (w.heap.size+1) 109 i0 .nilIface 1 16 underlying115 ad av aw ax rfl (by decide) u8 k f rfl (cs.alloc _) ⟨wr.heap.size,0,none⟩ 1 1 [.iface O P] rfl rfl (cell_one_new _ _ _) (fun y hy=>by simp at hy;subst hy;exact cq) (by decide) (by unfold maxLen;omega) (by omega) (by simp;omega) (wr.heap.size+1) (by simp) ?_;intro R d A aa J aq _;obtain⟨bw,dt,dk,Z⟩:=ct.out A R d _ aa J aq;have cv:Hid (I5 _ _ _ _ _ _ _ _):=bw;have cw:Hid (World.ownsRow _ _ _ _ _ _ _):=Z;clear aa J aq bw Z) | (at_builtin;refine wpList_append_lies _ rfl _ _ 115 rfl (w.heap.size+1) 109 i0 .nilIface 1 16 underlying115 ad av aw ax rfl (by decide) u9 k c rfl (cw.alloc _) ⟨A.heap.size,0,none⟩ 1 1 [.iface ai aj] rfl rfl (cell_one_new _ _ _) (fun y hy=>by simp at hy;subst hy;exact cr) (by decide) (by unfold maxLen;omega) (by omega) (by simp;omega) (A.heap.size+1) (by simp) ?_;intro g4 B w4 bi ak bx _))
       go_roundw
       case rel=>exact⟨k+1,_,_,by omega,by go_num,cu A w4 R d g4 B _ cv bi ak bx,cn,co,cp⟩
       case measure=>simp [intOf];omega
      ·have HE:Hid (o=none):=show o=none from by rw [HO.out,q9 (gJ HX (nX (by rintro⟨a,b,e⟩;rw [DataW.agg.injEq] at e;subst e;exact Y rfl)))];rfl
       have bz:=N.1;obtain⟨du,bt,rfl,_⟩:=Sl.C7 ah;have cx:((vx.length:Int)!=2)=true:=by simp;omega
       clear bz N hr Y ah;go_wp2_with (go_at_call 149;refine(aS _ _).mono ?_;rintro e E ⟨rfl,rfl⟩);go_ret2;exact⟨aI H,s,DK.refl _,Nat.le_add_right _ _,.inr ⟨HE,rfl,S.below H,_,_,rfl⟩⟩
     ·have HE:Hid (o=none):=show o=none from by rw [HO.out,q9 (gJ HX (nX (by rintro⟨a,b,e⟩;exact ag ⟨_,e⟩)))];rfl
      obtain⟨y,hy⟩:=hr.KR ag;clear hr ag;rcases hy with rfl | rfl | rfl
      ·go_wp2_with (go_at_call 149;refine(aS _ _).mono ?_;rintro e E ⟨rfl,rfl⟩)
       go_ret2;exact⟨aI H,s,DK.refl _,Nat.le_add_right _ _,.inr ⟨HE,rfl,S.below H,_,_,rfl⟩⟩
      ·go_wp2_with (go_at_call 149;refine(aS _ _).mono ?_;rintro e E ⟨rfl,rfl⟩)
       go_ret2;exact⟨aI H,s,DK.refl _,Nat.le_add_right _ _,.inr ⟨HE,rfl,S.below H,_,_,rfl⟩⟩
      ·go_wp2_with (go_at_call 149;refine(aS _ _).mono ?_;rintro e E ⟨rfl,rfl⟩)
       go_ret2;exact⟨aI H,s,DK.refl _,Nat.le_add_right _ _,.inr ⟨HE,rfl,S.below H,_,_,rfl⟩⟩
    ·have cy:k=l.length:=by omega
     subst cy;rw [List.take_length] at HP af X;have ca:(w.alloc (A0 tb)).heap.size=w.heap.size+1:=by simp
     have bj:∀j,M j->j<w.heap.size+1:=fun j hj=>by have:=S.mlt j hj;omega
     have cz:wr.cell? ⟨g,F+1,none⟩=some (.iface T2 x2):=(H.cell (p:=⟨g,F+1,none⟩) hg).trans k1;have c0:wr.cell? ⟨w.heap.size,0,none⟩=some (.pointer (some ⟨tb,0,none⟩)):=aA ((bc.block w.heap.size (by omega)).trans ch) 0;have al:wr.ownsRow (w.heap.size+1) PT 1 u8 l.length f:=by have:=W.G0;rwa [ca] at this
     have bk:wr.ownsRow (w.heap.size+1) PT 1 u9 l.length c:=by have:=W.I6;rwa [ca] at this
     have bl:Hid (wr.ownsRow (w.heap.size+1) PT 1 u9 l.length c):=bk;have cb:Hid (Stp M w M wr):=Stp.AA H;have bm:Hid (AN (fun k=>¬M k) (m+1) wr (.iface 115 u8) (.agg (l.map Pl.DC))):=XR bj (af.mono (fun _ _ h=>h.go cb)) (by simpa using al) (by simpa using an);have ar:Hid (AN (fun k=>¬M k) (m+1) wr (.iface T2 x2) G):=cj.go cb;obtain⟨ab,C,rfl,_⟩:=bC al;have U:c.length=l.length:=by have:=bk.1;omega
     have cc:f.length=l.length:=by have:=al.1;omega
     rw [cc] at bm ⊢;have da:Hid (BM M wr s tb mb ps):=S.below H;have db:Hid (AN (fun k=>¬M k) (m+1+1) (wr.alloc (.cells #[.iface 117 (.string ⟨#[108,97,109,98,100,97]⟩),.iface 115 (.slice ab l.length C),.iface T2 x2] PT (0,0))) (.iface 115 (.slice (some ⟨wr.heap.size,0,none⟩) 3 3)) (.agg [.lit (.string Pl.C3),.agg (l.map Pl.DC),G])):=rR da.mlt bm ar _ rfl;have HK:Hid (∀(wz:World)(am:Value),Below (wr.heap.size+1) (wr.alloc (.cells #[.iface 117 (.string ⟨#[108,97,109,98,100,97]⟩),.iface 115 (.slice ab l.length C),.iface T2 x2] PT (0,0))) wz->CD M wz am (.iface 115 (.slice (some ⟨wr.heap.size,0,none⟩) 3 3)::c)->Calls prog 156 #[.agg #[.pointer (some ⟨tb,0,none⟩)],am] wz fun e E=>∃v ev,e=.returned (.tuple #[v,ev])/\Hid (LM M w s tb mb ps o (BB (m+1) (.agg l)+BB (m+1) G) v ev E)):=fun wz am Q q =>zW m HF HL M w _ s tb mb ps l G bs _ c S (H.alloc (by omega) _) HA bq.2 bq.1 HP an db X HZ.1 o HO wz am (by simpa using Q) q;have cd:∀u∈c,u.oneCell'=true:=fun u hu=>by obtain⟨T,x,rfl⟩:=X.iface u hu;rfl
     have ce:Hid (∀j,M j->j<w.heap.size+1):=bj;have q1:∀z:Obj,(wr.alloc z).cell? ⟨w.heap.size,0,none⟩=some (.pointer (some ⟨tb,0,none⟩)):=fun z=>((bB wr z).cell (p:=⟨w.heap.size,0,none⟩) (by show w.heap.size<_;omega)).trans c0;have q2:∀z L:Obj,((wr.alloc z).alloc L).cell? ⟨w.heap.size,0,none⟩=some (.pointer (some ⟨tb,0,none⟩)):=fun z L=>((bA wr z L).cell (p:=⟨w.heap.size,0,none⟩) (by show w.heap.size<_;omega)).trans c0;have q3:∀z:Obj,(wr.alloc z).cell? ⟨g,F+1,none⟩=some (.iface T2 x2):=fun z=>((bB wr z).cell (p:=⟨g,F+1,none⟩) (by show g<_;omega)).trans cz;clear hk br bm ar HP cc W al bk bj k0;by_cases hz:l.length=0
     ·have dc:l=[]:=e_ hz;subst dc;obtain rfl:c=[]:=e_ U;obtain⟨dv,dl,rfl,_⟩:=bC bl;have dd:Hid (∀o:Obj,CD M ((wr.alloc o).alloc (.cells #[.iface 115 (.slice (some ⟨wr.heap.size,0,none⟩) 3 3)] PT)).drew (.slice (some ⟨wr.heap.size+1,0,none⟩) 1 1) [.iface 115 (.slice (some ⟨wr.heap.size,0,none⟩) 3 3)]):=fun o=>by have:=qV (M:=M) (fun j hj=>by have:=ce.out j hj;omega) (qU (wr.alloc o) PT (base:=w.heap.size+1) (by simp;omega) (.iface 115 (.slice (some ⟨wr.heap.size,0,none⟩) 3 3)));rw [show(wr.alloc o).heap.size=wr.heap.size+1 by simp] at this;exact Sl.AQ (Stp.AA r_.drew) this
      have bn:Hid (Calls prog 156 #[.agg #[.pointer (some ⟨tb,0,none⟩)],.slice (some ⟨wr.heap.size+1,0,none⟩) 1 1] ((wr.alloc (.cells #[.iface 117 (.string ⟨#[108,97,109,98,100,97]⟩),.iface 115 (.slice ab 0 C),.iface T2 x2] 109)).alloc (.cells #[.iface 115 (.slice (some ⟨wr.heap.size,0,none⟩) 3 3)] 109)).drew fun e E=>∃v ev,e=.returned (.tuple #[v,ev])/\Hid (LM M w s tb mb ps o (BB (m+1) (.agg [])+BB (m+1) G) v ev E)):=HK.out _ _ ((r_.alloc (by simp) _).drew) (dd _)
      go_upto_region 60 with fail
      go_region_law (first | (refine iC (by rfl) _ _ 115 (by rfl) 109 i0 underlying115 ad ⟨wr.heap.size+1,0,none⟩ 1 1 n_ _ _ (by rfl) (by rfl) ?_) | (refine kO (by rfl) 156 _ _ _ (by rfl) func156 (by kernel_rfl) rfl _ _ (by rfl) (by rfl) bn ?_;rintro e w2 ⟨v,ev,rfl,W⟩;refine⟨_,rfl,?_⟩))
      all_goals
       go_wp2_with fail
       go_ret2;obtain⟨hg,t,Q,q,h3⟩:=W.out;rcases h3 with⟨r,a1,rfl,a3,a4⟩ | ⟨a1,a2,a3,es,rfl⟩
       ·exact⟨hg,t,Q,by rw [HZ.2];exact q,.inl ⟨r,_,a1,rfl,a3,a4⟩⟩
       ·exact⟨hg,t,Q,by rw [HZ.2];exact q,.inr ⟨a1,a2,a3,_,_,rfl⟩⟩
     ·obtain⟨g7,au,rfl,_,_⟩:=bl.form (by omega)
      have de:Hid (∀(o:Obj)(u:Value),((wr.alloc o).alloc (.cells #[u] PT)).drew.ownsRow (wr.heap.size+1) PT 1 (.slice (some ⟨wr.heap.size+1,0,none⟩) 1 1) 1 [u]):=fun o u=>by
       have e:(wr.alloc o).heap.size=wr.heap.size+1:=by simp
       have:=qU (wr.alloc o) PT n_ u;rw [e] at this;exact this
      have df:Hid (∀z L:Obj,((wr.alloc z).alloc L).drew.ownsRow (w.heap.size+1) PT 1 (.slice (some ⟨g7,0,none⟩) l.length au) l.length c):=fun z L=>(bl.alloc z).alloc L;have dg:Hid (∀z L:Obj,Below (wr.heap.size+1) (wr.alloc z) ((wr.alloc z).alloc L).drew):=fun z L=>(r_.alloc (by simp) L).drew
      have bn:Hid (∀(w6:World)(g6 D:Nat),w6.ownsRow (wr.heap.size+1) PT 1 (.slice (some ⟨g6,0,none⟩) (1+l.length) D) (1+l.length) ([.iface 115 (.slice (some ⟨wr.heap.size,0,none⟩) 3 3)]++c)->((wr.alloc (.cells #[.iface 117 (.string ⟨#[108,97,109,98,100,97]⟩),.iface 115 (.slice ab l.length C),.iface T2 x2] 109)).alloc (.cells #[.iface 115 (.slice (some ⟨wr.heap.size,0,none⟩) 3 3)] 109)).drew.grownBy w6 (Value.ownBlock (.slice (some ⟨wr.heap.size+1,0,none⟩) 1 1)) ->
        Calls prog 156 #[.agg #[.pointer (some ⟨tb,0,none⟩)],.slice (some ⟨g6,0,none⟩) (1+l.length) D] w6 (fun e E=>∃v ev,e=.returned (.tuple #[v,ev])/\Hid (LM M w s tb mb ps o (BB (m+1) (.agg l)+BB (m+1) G) v ev E))/\w6.cell? ⟨w.heap.size,0,none⟩=some (.pointer (some ⟨tb,0,none⟩))):=fun w6 g6 D Q q=>by
       have cf:Below (wr.heap.size+1) (wr.alloc (.cells #[.iface 117 (.string ⟨#[108,97,109,98,100,97]⟩),.iface 115 (.slice ab l.length C),.iface T2 x2] PT (0,0))) w6:=(dg _ _).grown q (by show _<=((wr.alloc _).alloc _).heap.size;simp) (fun j hj=>by simp [Value.ownBlock] at hj;omega);refine⟨HK w6 _ cf (qV (fun j hj=>by have:=ce.out j hj;omega) Q),?_⟩;exact(cf.cell (p:=⟨w.heap.size,0,none⟩) (by show w.heap.size<_;omega)).trans (q1 _)
      go_upto_region 60 with fail
      go_region_law (first | (refine step_append_lies _ (by rfl) _ _ 115 (by rfl) (wr.heap.size+1) 109 i0 .nilIface 1 16 underlying115 ad av aw ax rfl (by decide) (.slice (some ⟨wr.heap.size+1,0,none⟩) 1 1) 1 _ (by rfl) (de _ _) ⟨g7,0,none⟩ l.length au c (by rfl) (by omega) ((df _ _).cells rfl) cd (by omega) (by unfold maxLen;omega) (by omega) (by show _<=((wr.alloc _).alloc _).heap.size;simp) (wr.heap.size+1+1) (by show((wr.alloc _).alloc _).heap.size=_;simp) ?_;intro g6 D w6 ac K _ _;obtain⟨cg,c6⟩:=bn.out w6 g6 D ac K;have dh:Hid (Calls _ _ _ _ _):=cg;clear ac K cg) | (refine kO (by rfl) 156 _ _ _ (by rfl) func156 (by kernel_rfl) rfl _ _ (by rfl) (by rfl) dh ?_;rintro e w2 ⟨v,ev,rfl,W⟩;refine⟨_,rfl,?_⟩))
      all_goals
       go_wp2_with fail
       go_ret2;obtain⟨hg,t,Q,q,h3⟩:=W.out;rcases h3 with⟨r,a1,rfl,a3,a4⟩ | ⟨a1,a2,a3,es,rfl⟩
       ·exact⟨hg,t,Q,by rw [HZ.2];exact q,.inl ⟨r,_,a1,rfl,a3,a4⟩⟩
       ·exact⟨hg,t,Q,by rw [HZ.2];exact q,.inr ⟨a1,a2,a3,_,_,rfl⟩⟩
  ·have HE:Hid (o=none):=show o=none from by rw [HO.out,pD ae];rfl
   obtain⟨y,hy⟩:=r1.KR ae;clear r1 ae;rcases hy with rfl | rfl | rfl
   ·go_enter func155,ntmps155
    go_wp2_with (go_at_call 149;refine(aS _ _).mono ?_;rintro e E ⟨rfl,rfl⟩)
    go_ret2;exact⟨aI (bB w _),s,DK.refl _,Nat.le_add_right _ _,.inr ⟨HE,rfl,S.below (bB w _),_,_,rfl⟩⟩
   ·go_enter func155,ntmps155
    go_wp2_with (go_at_call 149;refine(aS _ _).mono ?_;rintro e E ⟨rfl,rfl⟩)
    go_ret2;exact⟨aI (bB w _),s,DK.refl _,Nat.le_add_right _ _,.inr ⟨HE,rfl,S.below (bB w _),_,_,rfl⟩⟩
   ·go_enter func155,ntmps155
    go_wp2_with (go_at_call 149;refine(aS _ _).mono ?_;rintro e E ⟨rfl,rfl⟩)
    go_ret2;exact⟨aI (bB w _),s,DK.refl _,Nat.le_add_right _ _,.inr ⟨HE,rfl,S.below (bB w _),_,_,rfl⟩⟩
 ·have HE:Hid (o=none):=show o=none from by rw [ho,vY q];rfl
  obtain⟨ao,ci,rfl,_⟩:=Sl.C7 hS;have cx:((vs.length:Int)!=2)=true:=by simp;omega
  clear hA hF hL q U hS hR hB hz ho;go_enter func155,ntmps155;go_wp2_with (go_at_call 149;refine(aS _ _).mono ?_;rintro e E ⟨rfl,rfl⟩);go_ret2;exact⟨aI (bB w _),s,DK.refl _,Nat.le_add_right _ _,.inr ⟨HE,rfl,S.below (bB w _),_,_,rfl⟩⟩
theorem A5.from_{wz:World}{s:Sg}{ps:List (PV×PV)}{o:FR}{e:Ending}(h:A5 M wz s tb mb ps o z e w')(a:Below w.heap.size w wz):A5 M w s tb mb ps o z e w':=⟨aM (aI a) h.1,h.2⟩
theorem A5.more{s:Sg}{ps:List (PV×PV)}{o:FR}{z':Nat}{e:Ending}(d:z<=z')(h:A5 M w s tb mb ps o z e w'):A5 M w s tb mb ps o z' e w':=by obtain⟨a,t,b,f,c⟩:=h;exact⟨a,t,b,by omega,c⟩
theorem LM.post{s:Sg}{ps:List (PV×PV)}{o:FR}{v ev:Value}(h:LM M w s tb mb ps o z v ev w'):A5 M w s tb mb ps o z (.returned (.tuple #[v,ev])) w':=by
 obtain⟨c,t,d,e,⟨r,a,rfl,b⟩ | ⟨a,b,f,g,rfl⟩⟩:=h
 ·exact⟨c,t,d,e,.inl ⟨r,v,a,rfl,b⟩⟩
 ·exact⟨c,t,d,e,.inr ⟨a,b,f,v,g,rfl⟩⟩
theorem iA{wz:World}{s:Sg}{ps:List (PV×PV)}{o:FR}{f:FuncId}{xs:Array Value}(c:Below w.heap.size w wz)(h:Calls prog f xs wz fun e a=>A5 M wz s tb mb ps o z e a):Calls prog f xs wz fun e a=>∃v b,e=.returned (.tuple #[v,b])/\Hid (LM M w s tb mb ps o z v b a) :=
 h.mono (fun e a h=>by
  obtain⟨v,b,d,g⟩:=h.one
  exact⟨v,b,d,g.from_ c⟩)
theorem nE(M:Nat->Prop)(w:World)(s:Sg)(tb mb:Nat)(ps:List (PV×PV))(sl u:Value)(b:List Value)(p:List Tr)(o:FR)(z:Nat)(k:CD M w sl (u::b))(l:Calls prog 65 #[sl] (w.alloc (A0 tb)) fun e a=>e=.returned (.string ⟨(eG p).toArray⟩)/\w.alloc (A0 tb)=a)(q:eG p=[113,117,111,116,101])
  (r:∀d,CD M (w.alloc (A0 tb)) d b->Calls prog 150 #[D2 tb,d] (w.alloc (A0 tb)) fun e a=>A5 M (w.alloc (A0 tb)) s tb mb ps o z e a) :
  Calls prog 112 #[D2 tb,sl] w fun e a=>A5 M w s tb mb ps o z e a:=by
 have f:CD M (w.alloc (A0 tb)) sl (u::b):=Sl.AQ (Stp.AA (bB w (A0 tb))) k;rw [q] at l;obtain⟨g,h,m,rfl,t,E,F,_⟩:=(Sl.C7 k).cell0;have y:=(show Hid (∀L c,L=b.length+1->c=m->Calls prog 65 #[.slice (some ⟨g,h,none⟩) L c] (w.alloc (A0 tb)) fun e a=>e=.returned (.string ⟨([113,117,111,116,101]:List UInt8).toArray⟩)/\w.alloc (A0 tb)=a) from by rintro _ _ rfl rfl;exact l)
 have x:Hid (∀(i:Option Addr)(c:Nat),b.length<=c->(b.length≠0->i=some ⟨g,h+1,none⟩)->Calls prog 150 #[.agg #[.pointer (some ⟨tb,0,none⟩)],.slice i b.length c] (w.alloc (A0 tb)) fun e a=>∃v j,e=.returned (.tuple #[v,j])/\Hid (LM M w s tb mb ps o z v j a)):=fun i c A B=>iA (bB w _) (r _ (Sl.J4 f b.length rfl i c A B));have G:((b.length:Int)+1==0)=false:=by simp;omega
 have H:(w.alloc (A0 tb)).cell? ⟨w.heap.size,0,none⟩=some (.pointer (some ⟨tb,0,none⟩)):=aA (heap_alloc_new w (A0 tb)) 0;unfold D2;clear k f l q r;go_enter func112,ntmps112;go_wp2_with (go_at_call 65;refine(y _ _ (by omega) (by omega)).mono ?_;rintro e a ⟨rfl,rfl⟩)
 ·refine(x _ _ (by omega) (by intro C;first | rfl | (exfalso;omega))).mono ?_;rintro e D ⟨v,j,rfl,n⟩;go_wp2_with fail;go_ret2;exact n.post
 ·refine(x _ _ (by omega) (by intro C;first | rfl | (exfalso;omega))).mono ?_;rintro e D ⟨v,j,rfl,n⟩;go_wp2_with fail;go_ret2;exact n.post
theorem lT(M:Nat->Prop)(w:World)(s:Sg)(tb mb:Nat)(ps:List (PV×PV))(sl u:Value)(b:List Value)(p:List Tr)(o:FR)(z:Nat)(k:CD M w sl (u::b))(l:Calls prog 65 #[sl] (w.alloc (A0 tb)) fun e a=>e=.returned (.string ⟨(eG p).toArray⟩)/\w.alloc (A0 tb)=a)(q:eG p=[105,102])
  (r:∀d,CD M (w.alloc (A0 tb)) d b->Calls prog 151 #[D2 tb,d] (w.alloc (A0 tb)) fun e a=>A5 M (w.alloc (A0 tb)) s tb mb ps o z e a) :
  Calls prog 112 #[D2 tb,sl] w fun e a=>A5 M w s tb mb ps o z e a:=by
 have f:CD M (w.alloc (A0 tb)) sl (u::b):=Sl.AQ (Stp.AA (bB w (A0 tb))) k;rw [q] at l;obtain⟨g,h,m,rfl,t,E,F,_⟩:=(Sl.C7 k).cell0;have y:=(show Hid (∀L c,L=b.length+1->c=m->Calls prog 65 #[.slice (some ⟨g,h,none⟩) L c] (w.alloc (A0 tb)) fun e a=>e=.returned (.string ⟨([105,102]:List UInt8).toArray⟩)/\w.alloc (A0 tb)=a) from by rintro _ _ rfl rfl;exact l)
 have x:Hid (∀(i:Option Addr)(c:Nat),b.length<=c->(b.length≠0->i=some ⟨g,h+1,none⟩)->Calls prog 151 #[.agg #[.pointer (some ⟨tb,0,none⟩)],.slice i b.length c] (w.alloc (A0 tb)) fun e a=>∃v j,e=.returned (.tuple #[v,j])/\Hid (LM M w s tb mb ps o z v j a)):=fun i c A B=>iA (bB w _) (r _ (Sl.J4 f b.length rfl i c A B));have G:((b.length:Int)+1==0)=false:=by simp;omega
 have H:(w.alloc (A0 tb)).cell? ⟨w.heap.size,0,none⟩=some (.pointer (some ⟨tb,0,none⟩)):=aA (heap_alloc_new w (A0 tb)) 0;unfold D2;clear k f l q r;go_enter func112,ntmps112;go_wp2_with (go_at_call 65;refine(y _ _ (by omega) (by omega)).mono ?_;rintro e a ⟨rfl,rfl⟩)
 ·refine(x _ _ (by omega) (by intro C;first | rfl | (exfalso;omega))).mono ?_;rintro e D ⟨v,j,rfl,n⟩;go_wp2_with fail;go_ret2;exact n.post
 ·refine(x _ _ (by omega) (by intro C;first | rfl | (exfalso;omega))).mono ?_;rintro e D ⟨v,j,rfl,n⟩;go_wp2_with fail;go_ret2;exact n.post
theorem nF(M:Nat->Prop)(w:World)(s:Sg)(tb mb:Nat)(ps:List (PV×PV))(sl u:Value)(b:List Value)(p:List Tr)(o:FR)(z:Nat)(k:CD M w sl (u::b))(l:Calls prog 65 #[sl] (w.alloc (A0 tb)) fun e a=>e=.returned (.string ⟨(eG p).toArray⟩)/\w.alloc (A0 tb)=a)(q:eG p=[98,101,103,105,110])
  (r:∀d,CD M (w.alloc (A0 tb)) d b->Calls prog 152 #[D2 tb,d] (w.alloc (A0 tb)) fun e a=>A5 M (w.alloc (A0 tb)) s tb mb ps o z e a) :
  Calls prog 112 #[D2 tb,sl] w fun e a=>A5 M w s tb mb ps o z e a:=by
 have f:CD M (w.alloc (A0 tb)) sl (u::b):=Sl.AQ (Stp.AA (bB w (A0 tb))) k;rw [q] at l;obtain⟨g,h,m,rfl,t,E,F,_⟩:=(Sl.C7 k).cell0;have y:=(show Hid (∀L c,L=b.length+1->c=m->Calls prog 65 #[.slice (some ⟨g,h,none⟩) L c] (w.alloc (A0 tb)) fun e a=>e=.returned (.string ⟨([98,101,103,105,110]:List UInt8).toArray⟩)/\w.alloc (A0 tb)=a) from by rintro _ _ rfl rfl;exact l)
 have x:Hid (∀(i:Option Addr)(c:Nat),b.length<=c->(b.length≠0->i=some ⟨g,h+1,none⟩)->Calls prog 152 #[.agg #[.pointer (some ⟨tb,0,none⟩)],.slice i b.length c] (w.alloc (A0 tb)) fun e a=>∃v j,e=.returned (.tuple #[v,j])/\Hid (LM M w s tb mb ps o z v j a)):=fun i c A B=>iA (bB w _) (r _ (Sl.J4 f b.length rfl i c A B));have G:((b.length:Int)+1==0)=false:=by simp;omega
 have H:(w.alloc (A0 tb)).cell? ⟨w.heap.size,0,none⟩=some (.pointer (some ⟨tb,0,none⟩)):=aA (heap_alloc_new w (A0 tb)) 0;unfold D2;clear k f l q r;go_enter func112,ntmps112;go_wp2_with (go_at_call 65;refine(y _ _ (by omega) (by omega)).mono ?_;rintro e a ⟨rfl,rfl⟩)
 ·refine(x _ _ (by omega) (by intro C;first | rfl | (exfalso;omega))).mono ?_;rintro e D ⟨v,j,rfl,n⟩;go_wp2_with fail;go_ret2;exact n.post
 ·refine(x _ _ (by omega) (by intro C;first | rfl | (exfalso;omega))).mono ?_;rintro e D ⟨v,j,rfl,n⟩;go_wp2_with fail;go_ret2;exact n.post
theorem sF(M:Nat->Prop)(w:World)(s:Sg)(tb mb:Nat)(ps:List (PV×PV))(sl u:Value)(b:List Value)(p:List Tr)(o:FR)(z:Nat)(k:CD M w sl (u::b))(l:Calls prog 65 #[sl] (w.alloc (A0 tb)) fun e a=>e=.returned (.string ⟨(eG p).toArray⟩)/\w.alloc (A0 tb)=a)(q:eG p=[115,101,116,33])
  (r:∀d,CD M (w.alloc (A0 tb)) d b->Calls prog 153 #[D2 tb,d] (w.alloc (A0 tb)) fun e a=>A5 M (w.alloc (A0 tb)) s tb mb ps o z e a) :
  Calls prog 112 #[D2 tb,sl] w fun e a=>A5 M w s tb mb ps o z e a:=by
 have f:CD M (w.alloc (A0 tb)) sl (u::b):=Sl.AQ (Stp.AA (bB w (A0 tb))) k;rw [q] at l;obtain⟨g,h,m,rfl,t,E,F,_⟩:=(Sl.C7 k).cell0;have y:=(show Hid (∀L c,L=b.length+1->c=m->Calls prog 65 #[.slice (some ⟨g,h,none⟩) L c] (w.alloc (A0 tb)) fun e a=>e=.returned (.string ⟨([115,101,116,33]:List UInt8).toArray⟩)/\w.alloc (A0 tb)=a) from by rintro _ _ rfl rfl;exact l)
 have x:Hid (∀(i:Option Addr)(c:Nat),b.length<=c->(b.length≠0->i=some ⟨g,h+1,none⟩)->Calls prog 153 #[.agg #[.pointer (some ⟨tb,0,none⟩)],.slice i b.length c] (w.alloc (A0 tb)) fun e a=>∃v j,e=.returned (.tuple #[v,j])/\Hid (LM M w s tb mb ps o z v j a)):=fun i c A B=>iA (bB w _) (r _ (Sl.J4 f b.length rfl i c A B));have G:((b.length:Int)+1==0)=false:=by simp;omega
 have H:(w.alloc (A0 tb)).cell? ⟨w.heap.size,0,none⟩=some (.pointer (some ⟨tb,0,none⟩)):=aA (heap_alloc_new w (A0 tb)) 0;unfold D2;clear k f l q r;go_enter func112,ntmps112;go_wp2_with (go_at_call 65;refine(y _ _ (by omega) (by omega)).mono ?_;rintro e a ⟨rfl,rfl⟩)
 ·refine(x _ _ (by omega) (by intro C;first | rfl | (exfalso;omega))).mono ?_;rintro e D ⟨v,j,rfl,n⟩;go_wp2_with fail;go_ret2;exact n.post
 ·refine(x _ _ (by omega) (by intro C;first | rfl | (exfalso;omega))).mono ?_;rintro e D ⟨v,j,rfl,n⟩;go_wp2_with fail;go_ret2;exact n.post
theorem fZ(M:Nat->Prop)(w:World)(s:Sg)(tb mb:Nat)(ps:List (PV×PV))(sl u:Value)(b:List Value)(p:List Tr)(o:FR)(z:Nat)(k:CD M w sl (u::b))(l:Calls prog 65 #[sl] (w.alloc (A0 tb)) fun e a=>e=.returned (.string ⟨(eG p).toArray⟩)/\w.alloc (A0 tb)=a)(q:eG p=[108,97,109,98,100,97])
  (r:∀d,CD M (w.alloc (A0 tb)) d b->Calls prog 154 #[D2 tb,d] (w.alloc (A0 tb)) fun e a=>A5 M (w.alloc (A0 tb)) s tb mb ps o z e a) :
  Calls prog 112 #[D2 tb,sl] w fun e a=>A5 M w s tb mb ps o z e a:=by
 have f:CD M (w.alloc (A0 tb)) sl (u::b):=Sl.AQ (Stp.AA (bB w (A0 tb))) k;rw [q] at l;obtain⟨g,h,m,rfl,t,E,F,_⟩:=(Sl.C7 k).cell0;have y:=(show Hid (∀L c,L=b.length+1->c=m->Calls prog 65 #[.slice (some ⟨g,h,none⟩) L c] (w.alloc (A0 tb)) fun e a=>e=.returned (.string ⟨([108,97,109,98,100,97]:List UInt8).toArray⟩)/\w.alloc (A0 tb)=a) from by rintro _ _ rfl rfl;exact l)
 have x:Hid (∀(i:Option Addr)(c:Nat),b.length<=c->(b.length≠0->i=some ⟨g,h+1,none⟩)->Calls prog 154 #[.agg #[.pointer (some ⟨tb,0,none⟩)],.slice i b.length c] (w.alloc (A0 tb)) fun e a=>∃v j,e=.returned (.tuple #[v,j])/\Hid (LM M w s tb mb ps o z v j a)):=fun i c A B=>iA (bB w _) (r _ (Sl.J4 f b.length rfl i c A B));have G:((b.length:Int)+1==0)=false:=by simp;omega
 have H:(w.alloc (A0 tb)).cell? ⟨w.heap.size,0,none⟩=some (.pointer (some ⟨tb,0,none⟩)):=aA (heap_alloc_new w (A0 tb)) 0;unfold D2;clear k f l q r;go_enter func112,ntmps112;go_wp2_with (go_at_call 65;refine(y _ _ (by omega) (by omega)).mono ?_;rintro e a ⟨rfl,rfl⟩)
 ·refine(x _ _ (by omega) (by intro C;first | rfl | (exfalso;omega))).mono ?_;rintro e D ⟨v,j,rfl,n⟩;go_wp2_with fail;go_ret2;exact n.post
 ·refine(x _ _ (by omega) (by intro C;first | rfl | (exfalso;omega))).mono ?_;rintro e D ⟨v,j,rfl,n⟩;go_wp2_with fail;go_ret2;exact n.post
theorem sH(M:Nat->Prop)(w:World)(s:Sg)(tb mb:Nat)(ps:List (PV×PV))(sl u:Value)(b:List Value)(p:List Tr)(o:FR)(z:Nat)(k:CD M w sl (u::b))(l:Calls prog 65 #[sl] (w.alloc (A0 tb)) fun e a=>e=.returned (.string ⟨(eG p).toArray⟩)/\w.alloc (A0 tb)=a)(q:eG p=[108,101,116])
  (r:∀d,CD M (w.alloc (A0 tb)) d b->Calls prog 155 #[D2 tb,d] (w.alloc (A0 tb)) fun e a=>A5 M (w.alloc (A0 tb)) s tb mb ps o z e a) :
  Calls prog 112 #[D2 tb,sl] w fun e a=>A5 M w s tb mb ps o z e a:=by
 have f:CD M (w.alloc (A0 tb)) sl (u::b):=Sl.AQ (Stp.AA (bB w (A0 tb))) k;rw [q] at l;obtain⟨g,h,m,rfl,t,E,F,_⟩:=(Sl.C7 k).cell0;have y:=(show Hid (∀L c,L=b.length+1->c=m->Calls prog 65 #[.slice (some ⟨g,h,none⟩) L c] (w.alloc (A0 tb)) fun e a=>e=.returned (.string ⟨([108,101,116]:List UInt8).toArray⟩)/\w.alloc (A0 tb)=a) from by rintro _ _ rfl rfl;exact l)
 have x:Hid (∀(i:Option Addr)(c:Nat),b.length<=c->(b.length≠0->i=some ⟨g,h+1,none⟩)->Calls prog 155 #[.agg #[.pointer (some ⟨tb,0,none⟩)],.slice i b.length c] (w.alloc (A0 tb)) fun e a=>∃v j,e=.returned (.tuple #[v,j])/\Hid (LM M w s tb mb ps o z v j a)):=fun i c A B=>iA (bB w _) (r _ (Sl.J4 f b.length rfl i c A B));have G:((b.length:Int)+1==0)=false:=by simp;omega
 have H:(w.alloc (A0 tb)).cell? ⟨w.heap.size,0,none⟩=some (.pointer (some ⟨tb,0,none⟩)):=aA (heap_alloc_new w (A0 tb)) 0;unfold D2;clear k f l q r;go_enter func112,ntmps112;go_wp2_with (go_at_call 65;refine(y _ _ (by omega) (by omega)).mono ?_;rintro e a ⟨rfl,rfl⟩)
 ·refine(x _ _ (by omega) (by intro C;first | rfl | (exfalso;omega))).mono ?_;rintro e D ⟨v,j,rfl,n⟩;go_wp2_with fail;go_ret2;exact n.post
 ·refine(x _ _ (by omega) (by intro C;first | rfl | (exfalso;omega))).mono ?_;rintro e D ⟨v,j,rfl,n⟩;go_wp2_with fail;go_ret2;exact n.post
theorem lU(M:Nat->Prop)(w:World)(s:Sg)(tb mb:Nat)(ps:List (PV×PV))(sl u:Value)(b:List Value)(i:List Tr)(o:FR)(z:Nat)(j:BM M w s tb mb ps)(k:CD M w sl (u::b))(d:Calls prog 65 #[sl] (w.alloc (A0 tb)) fun e a=>e=.returned (.string ⟨(eG i).toArray⟩)/\w.alloc (A0 tb)=a)(l:eG i=[100,101,102,105,110,101])(m:o=none) :Calls prog 112 #[D2 tb,sl] w fun e a=>A5 M w s tb mb ps o z e a:=by
 rw [l] at d;obtain⟨g,f,h,rfl,n,t,v,_⟩:=(Sl.C7 k).cell0;have r:=(show Hid (∀L c,L=b.length+1->c=h->Calls prog 65 #[.slice (some ⟨g,f,none⟩) L c] (w.alloc (A0 tb)) fun e a=>e=.returned (.string ⟨([100,101,102,105,110,101]:List UInt8).toArray⟩)/\w.alloc (A0 tb)=a) from by rintro _ _ rfl rfl;exact d)
 have x:((b.length:Int)+1==0)=false:=by simp;omega
 have y:(w.alloc (A0 tb)).cell? ⟨w.heap.size,0,none⟩=some (.pointer (some ⟨tb,0,none⟩)):=aA (heap_alloc_new w (A0 tb)) 0;have p:=h_ j;have q:=h_ m;unfold D2;clear k d l j m;go_enter func112,ntmps112;go_wp2_with (first | (go_at_call 65;refine(r _ _ (by omega) (by omega)).mono ?_;rintro e a ⟨rfl,rfl⟩) | (go_at_call 149;refine(aS _ _).mono ?_;rintro e a ⟨rfl,rfl⟩))
 ·go_ret2;exact⟨aI (bB w _),s,DK.refl _,Nat.le_add_right _ _,.inr ⟨q,rfl,p.below (bB w _),_,_,rfl⟩⟩
 ·go_ret2;exact⟨aI (bB w _),s,DK.refl _,Nat.le_add_right _ _,.inr ⟨q,rfl,p.below (bB w _),_,_,rfl⟩⟩
theorem oV(M:Nat->Prop)(w:World)(s:Sg)(tb mb:Nat)(ps:List (PV×PV))(sl u:Value)(f:List Value)(k:List Tr)(o:FR)(z:Nat)(l:CD M w sl (u::f))(i:Calls prog 65 #[sl] (w.alloc (A0 tb)) fun e a=>e=.returned (.string ⟨(eG k).toArray⟩)/\w.alloc (A0 tb)=a)(m:eG k=[])
  (n:Calls prog 156 #[D2 tb,sl] (w.alloc (A0 tb)) fun e a=>A5 M (w.alloc (A0 tb)) s tb mb ps o z e a) :
  Calls prog 112 #[D2 tb,sl] w fun e a=>A5 M w s tb mb ps o z e a:=by
 rw [m] at i;obtain⟨g,b,d,rfl,p,x,y,_⟩:=(Sl.C7 l).cell0;have r:=(show Hid (∀L c,L=f.length+1->c=d->Calls prog 65 #[.slice (some ⟨g,b,none⟩) L c] (w.alloc (A0 tb)) fun e a=>e=.returned (.string ⟨([]:List UInt8).toArray⟩)/\w.alloc (A0 tb)=a) from by rintro _ _ rfl rfl;exact i)
 have q:Hid (∀L c,L=f.length+1->c=d->Calls prog 156 #[.agg #[.pointer (some ⟨tb,0,none⟩)],.slice (some ⟨g,b,none⟩) L c] (w.alloc (A0 tb)) fun e a=>∃v h,e=.returned (.tuple #[v,h])/\Hid (LM M w s tb mb ps o z v h a)):=by rintro _ _ rfl rfl;exact iA (bB w _) n
 have A:((f.length:Int)+1==0)=false:=by simp;omega
 have B:(w.alloc (A0 tb)).cell? ⟨w.heap.size,0,none⟩=some (.pointer (some ⟨tb,0,none⟩)):=aA (heap_alloc_new w (A0 tb)) 0;unfold D2;clear l i m n;go_enter func112,ntmps112;go_wp2_with (go_at_call 65;refine(r _ _ (by omega) (by omega)).mono ?_;rintro e a ⟨rfl,rfl⟩)
 ·refine(q _ _ (by omega) (by omega)).mono ?_;rintro e t ⟨v,h,rfl,j⟩;go_wp2_with fail;go_ret2;exact j.post
 ·refine(q _ _ (by omega) (by omega)).mono ?_;rintro e t ⟨v,h,rfl,j⟩;go_wp2_with fail;go_ret2;exact j.post
theorem sG(M:Nat->Prop)(w:World)(s:Sg)(tb mb:Nat)(ps:List (PV×PV))(sl:Value)(o:FR)(z:Nat)(a:BM M w s tb mb ps)(b:CD M w sl [])(c:o=none) :Calls prog 112 #[D2 tb,sl] w fun e d=>A5 M w s tb mb ps o z e d:=by obtain⟨i,f,rfl,_⟩:=Sl.C7 b;have g:=h_ a;have h:=h_ c;unfold D2;clear b a c;go_enter func112,ntmps112;go_wp2_with (go_at_call 149;refine(aS _ _).mono ?_;rintro e d ⟨rfl,rfl⟩);go_ret2;exact⟨aI (bB w _),s,DK.refl _,Nat.le_add_right _ _,.inr ⟨h,rfl,g.below (bB w _),_,_,rfl⟩⟩
theorem wI{b:List Tr}{h:List UInt8}(a:Pl.BJ b=some h):EE h=true:=by
 unfold Pl.BJ at a;split at a
 ·split at a
  ·obtain rfl:=i_ a;assumption
  ·simp at a
 ·simp at a
theorem pF{sl:Value}{vs:List Value}{a:List Tr}(c:CD M w sl vs)(b:C9 M n w vs a):Calls prog 65 #[sl] (w.alloc (A0 tb)) fun e d=>e=.returned (.string ⟨(eG a).toArray⟩)/\w.alloc (A0 tb)=d :=oX _ n sl vs a (w.alloc (A0 tb)) w (Sl.C7 (Sl.AQ (Stp.AA (bB w (A0 tb))) c)) b.1 (fun u x f g=>b.2 0 u x (by rw [<- List.head?_eq_getElem?];exact f) (by rw [<- List.head?_eq_getElem?];exact g))
theorem C9.tail{u:Value}{us:List Value}{t:Tr}{r:List Tr}(h:C9 M n w (u::us) (t::r)):C9 M n w us r:=BY.drop h 1
theorem C9.below{us:List Value}{r:List Tr}(h:C9 M n w us r)(a:Below w.heap.size w w'):C9 M n w' us r:=BY.mono h (fun _ _ h=>h.go (Stp.AA a))
theorem XI(n:Nat)(O:n<=1000)(q:GB n)(P:JG n)(M:Nat->Prop)(w:World)(s:Sg)(tb mb:Nat)(ps:List (PV×PV))(sl:Value)(vs:List Value)(p:List Tr)(I:BM M w s tb mb ps)(k:CD M w sl vs)(y:C9 M n w vs p)(L:∀x∈p,cL n x)(A:p.length<=1000)(c:s.ns.length+(p.map (BB n)).sum<=BS) :Calls prog 112 #[D2 tb,sl] w fun e B=>A5 M w s tb mb ps (EF (Pl.K1 (AD n) p) ps.length) (p.map (BB n)).sum e B:=by
 have H:=bB w (A0 tb);have d:=I.below H
 match vs,p,y.1 with
 | [],[],_=>exact sG M w s tb mb ps sl _ _ I k rfl
 | u::f,t::r,_ =>
  have C:r.length<=1000:=by simp at A;omega
  have o:=pF (tb:=tb) k y;have g:=(C9.tail y).below H;have j:∀x∈r,cL n x:=fun x D=>L x (List.mem_cons_of_mem _ D);have J:(r.map (BB n)).sum<=((t::r).map (BB n)).sum:=by simp
  have m:s.ns.length+(r.map (BB n)).sum<=BS:=by omega
  cases E:Pl.BJ (t::r) with
  | none =>
   have b:eG (t::r)=[]:=by unfold eG;rw [E]
   have K:Pl.K1 (AD n) (t::r)=(Pl.B1 (AD n) (t::r)).map fun l=>BN .call [] .nil l []:=by show(match Pl.BJ (t::r) with | some h=>Pl.IN (AD n) (.agg (t::r)) h r | none=>(Pl.B1 (AD n) (t::r)).map fun l=>BN .call [] .nil l [])=_;rw [E]
   refine oV M w s tb mb ps sl u f (t::r) _ _ k o b ?_;refine S7 M _ s tb mb ps sl (u::f) ((t::r).map fun x=>EF (AD n x)) ((t::r).map (BB n)) d (Sl.AQ (Stp.AA H) k) (by rw [List.length_map];exact y.1) (by simp) (by rw [List.length_map];omega) (by simp) c y.iface ?_ _ ?_
   ·intro i v F z Q N c;rw [List.getElem?_map,Option.map_eq_some_iff] at N c;obtain⟨x,D,rfl⟩:=N;obtain⟨S,G,rfl⟩:=c;rw [D] at G;obtain rfl:=i_ G;exact q M _ v x ((y.2 i v x Q D).go (Stp.AA H)) (L x (q_ D))
   ·rw [K,Pl.KP]
    cases Pl.B1 (AD n) (t::r) with
    | none=>rfl
    | some l=>simp [EF,BN,Pl.BC]
  | some h =>
   have b:eG (t::r)=h:=by unfold eG;rw [E]
   have K:Pl.K1 (AD n) (t::r)=Pl.IN (AD n) (.agg (t::r)) h r:=by show(match Pl.BJ (t::r) with | some h=>Pl.IN (AD n) (.agg (t::r)) h r | none=>(Pl.B1 (AD n) (t::r)).map fun l=>BN .call [] .nil l [])=_;rw [E]
   rw [K];refine Calls.mono (R:=fun e B=>A5 M w s tb mb ps (EF (Pl.IN (AD n) (.agg (t::r)) h r) ps.length) (r.map (BB n)).sum e B) ?_ (fun e B h=>A5.more J h);rcases rB (wI E) with rfl | rfl | rfl | rfl | rfl | rfl | rfl
   ·refine nE M w s tb mb ps sl u f (t::r) _ _ k o b (fun a c=>?_);exact(XJ n O M _ s tb mb ps a f r t d c g j _ rfl).mono (fun e B h=>h.more (Nat.zero_le _))
   ·refine lT M w s tb mb ps sl u f (t::r) _ _ k o b (fun a c=>?_);exact yU n q M _ s tb mb ps a f r d c g j C m _ rfl
   ·refine fZ M w s tb mb ps sl u f (t::r) _ _ k o b (fun a c=>?_);exact qQ n q M _ s tb mb ps a f r d c g j m _ rfl
   ·refine sF M w s tb mb ps sl u f (t::r) _ _ k o b (fun a c=>?_);exact p_set n q M _ s tb mb ps a f r d c g j m _ rfl
   ·exact lU M w s tb mb ps sl u f (t::r) _ _ I k o b rfl
   ·refine nF M w s tb mb ps sl u f (t::r) _ _ k o b (fun a c=>?_);exact XP n q M _ s tb mb ps a f r d c g j C m _ rfl
   ·refine sH M w s tb mb ps sl u f (t::r) _ _ k o b (fun a c=>?_);exact p_let n q P M _ s tb mb ps a f r d c g j m _ rfl
theorem jG(M:Nat->Prop)(w:World)(s:Sg)(tb mb:Nat)(ps:List (PV×PV))(sl:Value)(vs:List Value)(o:FR)(z:Nat)(b:CD M w sl vs)(c:Calls prog 112 #[D2 tb,sl] (w.alloc (A0 tb)) fun e a=>A5 M (w.alloc (A0 tb)) s tb mb ps o z e a) :Calls prog 67 #[D2 tb,.iface 115 sl] w fun e a=>A5 M w s tb mb ps o z e a:=by have f:=Tryz.ET;obtain⟨i,g,rfl,_⟩:=Sl.C7 b;have d:Hid _:=iA (bB w _) c;unfold D2 at d ⊢;clear b c;go_enter func67,ntmps67;go_wp2_with fail;refine Calls.mono d ?_;rintro e j ⟨v,k,rfl,h⟩;go_wp2_with fail;go_ret2;exact h.post
theorem oY(M:Nat->Prop)(w:World)(s:Sg)(tb mb:Nat)(ps:List (PV×PV))(x:AE)(o:FR)(j:BM M w s tb mb ps)(t:x.length<=300)(m:s.ns.length+1<=BS)(n:o=EF (if EE x then none else some (BN .name x .nil [] [])) ps.length) :Calls prog 67 #[D2 tb,.iface 117 (.string ⟨x.toArray⟩)] w fun e u=>A5 M w s tb mb ps o 1 e u:=by
 have v:=Tryz.FN;have z:=Tryz.FM;have A:=h_ j;have p:=h_ n;have q:=bB w (A0 tb);have g:=(show Hid _ from qP (fun _=>True) 1 w M (w.alloc (A0 tb)) s tb mb ps (.iface 117 (.string ⟨x.toArray⟩)) (.lit (.string x)) rfl (j.below q) (fun y d=>by injection d with d;injection d with d;subst d;exact⟨by omega,m⟩))
 unfold D2 at g ⊢;clear j t m n q;go_enter func67,ntmps67;go_wp2_with fail;refine Calls.mono g ?_;rintro e c h;obtain⟨i,⟨y,a,f,rfl,r⟩ | ⟨a,f,B,rfl⟩⟩:=h
 ·injection a with a
  injection a with a
  subst a;have k:Hid (w.grownBy c (some mb)):=aM (aI (bB w _)) i;have l:=h_ r;have b:Hid (o=some (BN .name x .nil [] [],[])):=show o=_ from by rw [p.out,f];simp [EF,BN,Pl.BC,Pl.BV]
  clear i r f g;go_wp2_with fail;go_ret2;exact⟨aM k (aI (bB c _)),s.named x,s.E5 x,dE _ _,.inl ⟨_,_,b,rfl,by rw [List.append_nil];exact l.below (bB c _),.name _ _ _ _ _ _ (d8 s.ns x)⟩⟩
 ·have k:Hid (w.grownBy c (some mb)):=aM (aI (bB w _)) i;have l:=h_ f
  have b:Hid (o=none):=show o=_ from by
   rw [p.out];have:EE x=true:=by simpa [isName] using a
   rw [this];rfl
  clear i f a g;unfold aY;go_wp2_with fail;go_ret2;exact⟨aM k (aI (bB c _)),s,DK.refl _,Nat.le_add_right _ _,.inr ⟨b,rfl,l.below (bB c _),_,_,rfl⟩⟩
theorem hZ(M:Nat->Prop)(w:World)(s:Sg)(tb mb:Nat)(ps:List (PV×PV))(v:Value)(t:Tr)(n:Nat)(o:FR)(A:BM M w s tb mb ps)(g:AN (fun k=>¬M k) (n+1) w v t)(B:cL (n+1) t)(q:(∃k m,t=.lit (.int k m))\/∃b,t=.lit (.bool b))(C:o=EF (some (BN .const [] t [] [])) ps.length) :Calls prog 67 #[D2 tb,v] w fun e G=>A5 M w s tb mb ps o 1 e G:=by
 have H:=Tryz.FY;have I:=Tryz.GO;have J:=Tryz.EO;have K:=Tryz.E7;have a:=h_ (A.below (bB w (A0 tb)));have r:Pl.quoted t=t/\isQ t=false:=by rcases q with⟨k,m,rfl⟩ | ⟨b,rfl⟩<;>exact⟨rfl,rfl⟩
 have D:=h_ r.2.symm;have E:Hid (o=some (Pl.PF.mk .const [] t (Pl.made 1000 ps.length t).1 [] [],(Pl.made 1000 ps.length t).2)):=show o=_ from by rw [C];simp [EF,BN,Pl.CI,r.1]
 have F:=(show Hid _ from p_of 1000 M _ _ s ps v t a.pairs a.mlt (by
  have L:AN (fun k=>¬M k) 1 w v t:=by rcases q with⟨k,m,rfl⟩ | ⟨b,rfl⟩<;>exact g
  exact AN.up _ _ _ _ (show 1<=1000 by omega) (L.later (bB w (A0 tb)))) (mF (n+1) 1000 v t g B))
 clear A C r B;unfold D2;rcases q with⟨k,m,rfl⟩ | ⟨b,rfl⟩
 ·obtain⟨P,rfl,_⟩:=g;go_enter func67,ntmps67;go_wp2_with fail;refine Calls.mono F ?_;rintro e h ⟨v,t,rfl,f,i,c,d⟩;have u:=h_ f;have x:Hid (BM M h t tb mb (ps++_)):=show BM _ _ _ _ _ _ from⟨by obtain⟨l,rfl⟩:=d;exact a.B3.keep (c.block _ a.B3.lt.1) (c.block _ a.B3.lt.2),i,a.FV,a.JJ,fun j y=>l_ (a.mlt j y) c.size⟩;have z:Hid (w.grownBy h (some mb)):=aI ((bB w _).trans (c.mono (bB w _).size));have p:Hid (DK s t/\t.ns.length<=s.ns.length+1):=⟨d.r,by obtain⟨l,rfl⟩:=d;exact Nat.le_add_right _ _⟩
  obtain⟨N,O,rfl⟩:=f.iface;clear f i c d a;go_wp2_with fail;go_ret2;exact⟨z,t,p.1,p.2,.inl ⟨_,_,E,rfl,x,.const _ false [] _ _ [] [] u D⟩⟩
 ·obtain rfl:=(show v=_ from g)
  clear g;go_enter func67,ntmps67;go_wp2_with fail;refine Calls.mono F ?_;rintro e h ⟨v,t,rfl,f,i,c,d⟩;have u:=h_ f;have x:Hid (BM M h t tb mb (ps++_)):=show BM _ _ _ _ _ _ from⟨by obtain⟨l,rfl⟩:=d;exact a.B3.keep (c.block _ a.B3.lt.1) (c.block _ a.B3.lt.2),i,a.FV,a.JJ,fun j y=>l_ (a.mlt j y) c.size⟩;have z:Hid (w.grownBy h (some mb)):=aI ((bB w _).trans (c.mono (bB w _).size));have p:Hid (DK s t/\t.ns.length<=s.ns.length+1):=⟨d.r,by obtain⟨l,rfl⟩:=d;exact Nat.le_add_right _ _⟩
  obtain⟨N,O,rfl⟩:=f.iface;clear f i c d a;go_wp2_with fail;go_ret2;exact⟨z,t,p.1,p.2,.inl ⟨_,_,E,rfl,x,.const _ false [] _ _ [] [] u D⟩⟩
theorem zY(n:Nat)(A:GB n):JG n:=by
 intro F G v a b f B C M w s e g h i D E;obtain⟨j,k,rfl,p,q,_⟩:=(f.go i).RQ;have l:=bB w (A0 e);have r:=bB (w.alloc (A0 e)) (A0 e);have c:CD M (w.alloc (A0 e)) j k:=Sl.AQ (Stp.AA l) p;have d:=C9.below q l;refine jG M w s e g h j k _ _ p ?_
 match k,q.1,c,d with
 | [u,t,y],_,c,d =>
  refine fZ M _ s e g h j u [t,y] [.lit (.string Pl.C3),a,b] _ _ c (pF c d) rfl (fun m o=>?_)
  have:=qQ n A M _ s e g h m [t,y] [a,b] ((D.below l).below r) o (C9.below (C9.tail d) r) (fun x z=>by
   simp only [List.mem_cons,List.not_mem_nil,or_false] at z;rcases z with rfl | rfl
   ·exact B
   ·exact C) (by simpa using E) _ rfl
  rw [show([a,b].map (BB n)).sum=BB n a+BB n b from by simp] at this;exact this
theorem wP:∀n,n<=1001->GB n
 | 0,_=>fun _ _ _ _ h=>h.elim
 | n+1,B=>by
  have p:=wP n (by omega);intro C D v t j a M w s e f g l i d;have c:=j.go l;have o:=bB w (A0 e)
  match t,c,a,d with
  | .lit (.int k m),c,a,d=>exact hZ M w s e f g v _ n _ i c a (.inl ⟨_,_,rfl⟩) rfl
  | .lit (.bool b),c,a,d=>exact hZ M w s e f g v _ n _ i c a (.inr ⟨_,rfl⟩) rfl
  | .lit (.string x),c,a,d =>
   obtain rfl:=(show v=_ from c)
   exact oY M w s e f g x _ i a d rfl
  | .agg y,c,a,d =>obtain⟨q,r,rfl,u,z,A⟩:=c.RQ;exact jG M w s e f g q r _ _ u (XI n (by omega) p (zY n p) M _ s e f g q r y (i.below o) (Sl.AQ (Stp.AA o) u) (C9.below z o) a A d)
end
end Go.Proofs.YtkgbdddkcjpgfaaGreatDoor
