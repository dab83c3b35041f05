import Derived.Test.YtkgbdddkcjpgfaaGreatDoorC15
namespace Go.Proofs.YtkgbdddkcjpgfaaGreatDoor
set_option maxHeartbeats 4000000
set_option maxRecDepth 100000
open Go.Proofs.Tryz
open Pl (PV FR formOf tsz fmF)
section
open Go.RowKit
theorem p_let(n:Nat)(hF:FSaid n)(hL:LamSaid n)(M:Nat->Prop)(w:World)(s:Sg)(tb mb:Nat)(ps:List (PV×PV))(sl:Value)(vs:List Value)(ts:List Tr)(hR:Rdr M w s tb mb ps)(hS:DRow M w sl vs)(hA:AllD M n w vs ts)(hB:∀x∈ts,cL n x)(hz:s.ns.length+(ts.map (tsz n)).sum<=NsMax)(o:FR)(ho:o=fmF (Pl.let2F (formOf n) ts) ps.length) :Calls prog 155 #[rdV tb,sl] w fun e w'=>FmPost M w s tb mb ps o (ts.map (tsz n)).sum e w':=by
 obtain⟨i0,hi0,hz0,hz1,hz2⟩:=info_parts Tryz.infoPT;have as1:=Tryz.asNumber_List;have as2:=Tryz.asTruth_List;have as3:=Tryz.asName_List;have as4:=Tryz.asList_List;have HR:Hid (Rdr M w s tb mb ps):=hR;have HB1:Hid (Below w.heap.size w (w.alloc (rdO tb))):=bB w _;have HW1:Hid ((w.alloc (rdO tb)).heap[w.heap.size]?=some (rdO tb)):=heap_alloc_new _ _;have hvl:=hA.1;unfold rdV;by_cases h2:ts.length=2
 ·obtain⟨pr,bd,rfl⟩:=fO h2;obtain⟨u1,u2,rfl⟩:=fO (hvl.trans h2);have r1:=hA.2 0 u1 pr rfl rfl;have r2:=hA.2 1 u2 bd rfl rfl;obtain⟨g,off,cap,rfl,hcap,hg,k0,ks⟩:=(Sl.slOf hS).cell0;have k1:=ks 0 _ rfl;simp only [Nat.zero_add,List.length_cons,List.length_nil] at k1 hcap ⊢;have HBd:Hid (RepP (fun k=>¬M k) n w u2 bd):=r2;have HBb:Hid (cL n bd/\cL n pr):=⟨hB bd (by simp),hB pr (by simp)⟩
  obtain⟨T2,x2,rfl,o2⟩:=r2.iface;have HF:Hid (FSaid n):=hF;have HL:Hid (LamSaid n):=hL;have HO:Hid (o=fmF (Pl.letF (formOf n) pr bd) ps.length):=ho;have HZ:Hid (s.ns.length+(tsz n pr+tsz n bd)<=NsMax/\([pr,bd].map (tsz n)).sum=tsz n pr+tsz n bd):=⟨by simpa using hz,by simp⟩
  clear hA hS hF hL r2 hvl h2 ks o2 hR hB hz ho;by_cases hls:∃l,pr=.agg l
  ·obtain⟨l,rfl⟩:=hls
   obtain⟨m,rfl⟩:∃m,n=m+1:=by
    cases n with
    | zero=>exact r1.elim
    | succ m=>exact⟨m,rfl⟩
   obtain⟨sb,bs,rfl,hSb,hAb,hlen⟩:=r1.drow;have hbl:=hAb.1;have HSb:Hid (DRow M w sb bs):=hSb;obtain⟨ao,capb,rfl,hcapb,hcell⟩:=Sl.slOf hSb;rw [hbl] at k0 hcapb;have HV:Hid (bs.length=l.length):=hbl;have HC:Hid (∀(i:Nat)(u:Value),bs[i]?=some u->∃g off,ao=some ⟨g,off,none⟩/\g<w.heap.size/\w.cell? ⟨g,off+i,none⟩=some u):=hcell;have HA:Hid (AllD M m w bs l):=hAb;clear hbl hcell hAb r1 hSb HSb;go_enter func155,ntmps155;go_wp2_with fail
   go_loopw [8,9,33] (fun nS vS i wr=>∃(k:Nat)(nvs vvs:List Value),k<=l.length/\i=.int .i64 k/\Hid (QInv (w.alloc (rdO tb)) wr k k nS vS nvs vvs)/\Hid ((l.take k).all Pl.isPair=true)/\Hid (AllD M m w nvs ((l.take k).map Pl.fstOf))/\Hid (AllD M m w vvs ((l.take k).map Pl.sndOf))) (fun _ _ i _=>l.length-(intOf i).toNat)
   case atStart =>refine⟨0,[],[],Nat.zero_le _,rfl,?_,by simp [Hid],All2.nil _,All2.nil _⟩;have:=QInv.start (w.alloc (rdO tb));rw [show(w.alloc (rdO tb)).heap.size=w.heap.size+1 from by simp] at this;exact this
   case round =>
    obtain⟨k,nvs,vvs,hk,rfl,HQ,HP,HN1,HV1⟩:=hrel
    have HB0:Hid (Below (w.heap.size+1) (w.alloc (rdO tb)) wr):=show Below _ _ _ from by
     have:=HQ.out.below
     rwa [show(w.alloc (rdO tb)).heap.size=w.heap.size+1 from by simp] at this
    have HB:Hid (Below w.heap.size w wr):=show Below _ _ _ from HB1.out.trans (HB0.out.mono (by omega));have hwr:w.heap.size+1<=wr.heap.size:=by have:=HB0.out.size;simpa using this
    by_cases hlt:k<l.length
    ·obtain⟨u,hu⟩:∃u,bs[k]?=some u:=⟨bs[k]'(by have:=HV.out;omega),List.getElem?_eq_getElem (by have:=HV.out;omega)⟩
     obtain⟨x,hx⟩:∃x,l[k]?=some x:=⟨l[k],List.getElem?_eq_getElem hlt⟩
     obtain⟨g1,off1,rfl,hg1,hc⟩:=HC.out k u hu;have hc':wr.cell? ⟨g1,off1+k,none⟩=some u:=(HB.out.cell (p:=⟨g1,off1+k,none⟩) hg1).trans hc;have hr:=HA.out.2 k u x hu hx;have HX:Hid (l[k]?=some x):=hx;clear hu hx hc;have hlt2:(k:Int)<(l.length:Int):=by omega
     by_cases hxl:∃xs,x=.agg xs
     ·obtain⟨xs,rfl⟩:=hxl
      obtain⟨m',rfl⟩:∃m',m=m'+1:=by
       cases m with
       | zero=>exact hr.elim
       | succ m'=>exact⟨m',rfl⟩
      obtain⟨sx,vx,rfl,hSx,hAx,_⟩:=hr.drow;by_cases hx2:xs.length=2
      ·obtain⟨x0,x1,rfl⟩:=fO hx2;obtain⟨y0,y1,rfl⟩:=fO (hAx.1.trans hx2);obtain⟨gx,offx,capx,rfl,hcapx,hgx,z0,zs⟩:=(Sl.slOf hSx).cell0;have z1:=zs 0 y1 rfl;simp only [Nat.zero_add,List.length_cons,List.length_nil] at z1 hcapx hc';have rr0:RepP (fun k=>¬M k) (m'+1) w y0 x0:=RepP.up _ _ _ _ (Nat.le_succ _) (hAx.2 0 y0 x0 rfl rfl);have rr1:RepP (fun k=>¬M k) (m'+1) w y1 x1:=RepP.up _ _ _ _ (Nat.le_succ _) (hAx.2 1 y1 x1 rfl rfl);have HP2:Hid ((l.take (k+1)).all Pl.isPair=true):=eA HP.out HX.out rfl;have HN2:Hid (AllD M (m'+1) w (nvs++[y0]) ((l.take (k+1)).map Pl.fstOf)):=show All2 _ _ _ from by rw [c8 _ HX.out];exact HN1.out.snoc rr0
       have HV2:Hid (AllD M (m'+1) w (vvs++[y1]) ((l.take (k+1)).map Pl.sndOf)):=show All2 _ _ _ from by rw [c8 _ HX.out];exact HV1.out.snoc rr1
       obtain⟨Ty0,xy0,rfl,hy0⟩:=rr0.iface;obtain⟨Ty1,xy1,rfl,hy1⟩:=rr1.iface;have z0':wr.cell? ⟨gx,offx,none⟩=some (.iface Ty0 xy0):=(HB.out.cell (p:=⟨gx,offx,none⟩) hgx).trans z0
       have HNr:Hid (wr.ownsRow (w.heap.size+1) PT 1 u8 k nvs):=show World.ownsRow _ _ _ _ _ _ _ from by
        have:=HQ.out.nrow
        rwa [show(w.alloc (rdO tb)).heap.size=w.heap.size+1 from by simp] at this
       have HPN:Hid (∀(w3:World)(g3 cap3:Nat)(o:Obj),w3.ownsRow (w.heap.size+1) PT 1 (.slice (some ⟨g3,0,none⟩) (k+1) cap3) (k+1) (nvs++[.iface Ty0 xy0])->(wr.alloc o).grownBy w3 u8.ownBlock->(u8.ownBlock=some g3\/g3=wr.heap.size+1)->QInv (w.alloc (rdO tb)) w3 (k+1) k (.slice (some ⟨g3,0,none⟩) (k+1) cap3) u9 (nvs++[.iface Ty0 xy0]) vvs/\w3.cell? ⟨gx,offx+1,none⟩=some (.iface Ty1 xy1)/\w.heap.size+1<=w3.heap.size/\w3.ownsRow (w.heap.size+1) PT 1 u9 k vvs):=fun w3 g3 cap3 o h1 h2 h3=>by
        have hq:=HQ.out.pushN (o:=o) (by rw [show(w.alloc (rdO tb)).heap.size=w.heap.size+1 from by simp];exact h1) h2 h3;have e1:(w.alloc (rdO tb)).heap.size=w.heap.size+1:=by simp
        have hb3:=hq.below;have hv3:=hq.vrow;rw [e1] at hb3 hv3;have hb3':Below w.heap.size w w3:=HB1.out.trans (hb3.mono (by omega));exact⟨hq,(hb3'.cell (p:=⟨gx,offx+1,none⟩) hgx).trans z1,by have:=hb3.size;omega,hv3⟩
       have HPV:Hid (∀(w3 w4:World)(g3 cap3 g4 cap4:Nat)(o:Obj),QInv (w.alloc (rdO tb)) w3 (k+1) k (.slice (some ⟨g3,0,none⟩) (k+1) cap3) u9 (nvs++[.iface Ty0 xy0]) vvs->w4.ownsRow (w.heap.size+1) PT 1 (.slice (some ⟨g4,0,none⟩) (k+1) cap4) (k+1) (vvs++[.iface Ty1 xy1])->(w3.alloc o).grownBy w4 u9.ownBlock->(u9.ownBlock=some g4\/g4=w3.heap.size+1)->QInv (w.alloc (rdO tb)) w4 (k+1) (k+1) (.slice (some ⟨g3,0,none⟩) (k+1) cap3) (.slice (some ⟨g4,0,none⟩) (k+1) cap4) (nvs++[.iface Ty0 xy0]) (vvs++[.iface Ty1 xy1])):=fun w3 w4 g3 cap3 g4 cap4 o hq h1 h2 h3 =>hq.pushV (o:=o) (by rw [show(w.alloc (rdO tb)).heap.size=w.heap.size+1 from by simp];exact h1) h2 h3;clear hSx hAx zs hx2 HP HN1 HV1 rr0 rr1 hr HQ;go_wp2_with (first | (at_builtin;refine wpList_append_lies _ rfl _ _ 115 rfl (w.heap.size+1) 109 i0 .nilIface 1 16 underlying115 hi0 hz0 hz1 hz2 rfl (by decide) u8 k nvs rfl (HNr.out.alloc _) ⟨wr.heap.size,0,none⟩ 1 1 [.iface Ty0 xy0] rfl rfl (cell_one_new _ _ _) (fun y hy=>by simp at hy;subst hy;exact hy0) (by decide) (by unfold maxLen;omega) (by omega) (by simp;omega) (wr.heap.size+1) (by simp) ?_;intro g3 cap3 w3 hown3 hgrow3 hat3 _;obtain⟨hq3,z1',hwr3,hv3⟩:=HPN.out w3 g3 cap3 _ hown3 hgrow3 hat3;have HQ3:Hid (QInv _ _ _ _ _ _ _ _):=hq3;have HV3:Hid (World.ownsRow _ _ _ _ _ _ _):=hv3;clear hown3 hgrow3 hat3 hq3 hv3) | (at_builtin;refine wpList_append_lies _ rfl _ _ 115 rfl (w.heap.size+1) 109 i0 .nilIface 1 16 underlying115 hi0 hz0 hz1 hz2 rfl (by decide) u9 k vvs rfl (HV3.out.alloc _) ⟨w3.heap.size,0,none⟩ 1 1 [.iface Ty1 xy1] rfl rfl (cell_one_new _ _ _) (fun y hy=>by simp at hy;subst hy;exact hy1) (by decide) (by unfold maxLen;omega) (by omega) (by simp;omega) (w3.heap.size+1) (by simp) ?_;intro g4 cap4 w4 hown4 hgrow4 hat4 _))
       go_roundw
       case rel=>exact⟨k+1,_,_,by omega,by go_num,HPV.out w3 w4 g3 cap3 g4 cap4 _ HQ3.out hown4 hgrow4 hat4,HP2,HN2,HV2⟩
       case measure=>simp [intOf];omega
      ·have HE:Hid (o=none):=show o=none from by rw [HO.out,q9 (gJ HX.out (nX (by rintro⟨a,b,e⟩;rw [DataW.agg.injEq] at e;subst e;exact hx2 rfl)))];rfl
       have hxl2:=hAx.1;obtain⟨aox,capx,rfl,_⟩:=Sl.slOf hSx;have hne:((vx.length:Int)!=2)=true:=by simp;omega
       clear hxl2 hAx hr hx2 hSx;go_wp2_with (go_at_call 149;refine(aS _ _).mono ?_;rintro e w' ⟨rfl,rfl⟩);go_ret2;exact⟨aI HB.out,s,SgR.refl _,Nat.le_add_right _ _,.inr ⟨HE.out,rfl,HR.out.below HB.out,_,_,rfl⟩⟩
     ·have HE:Hid (o=none):=show o=none from by rw [HO.out,q9 (gJ HX.out (nX (by rintro⟨a,b,e⟩;exact hxl ⟨_,e⟩)))];rfl
      obtain⟨y,hy⟩:=hr.no_list hxl;clear hr hxl;rcases hy with rfl | rfl | rfl
      ·go_wp2_with (go_at_call 149;refine(aS _ _).mono ?_;rintro e w' ⟨rfl,rfl⟩)
       go_ret2;exact⟨aI HB.out,s,SgR.refl _,Nat.le_add_right _ _,.inr ⟨HE.out,rfl,HR.out.below HB.out,_,_,rfl⟩⟩
      ·go_wp2_with (go_at_call 149;refine(aS _ _).mono ?_;rintro e w' ⟨rfl,rfl⟩)
       go_ret2;exact⟨aI HB.out,s,SgR.refl _,Nat.le_add_right _ _,.inr ⟨HE.out,rfl,HR.out.below HB.out,_,_,rfl⟩⟩
      ·go_wp2_with (go_at_call 149;refine(aS _ _).mono ?_;rintro e w' ⟨rfl,rfl⟩)
       go_ret2;exact⟨aI HB.out,s,SgR.refl _,Nat.le_add_right _ _,.inr ⟨HE.out,rfl,HR.out.below HB.out,_,_,rfl⟩⟩
    ·have hke:k=l.length:=by omega
     subst hke;rw [List.take_length] at HP HN1 HV1;have hwk:(w.alloc (rdO tb)).heap.size=w.heap.size+1:=by simp
     have hMw:∀j,M j->j<w.heap.size+1:=fun j hj=>by have:=HR.out.mlt j hj;omega
     have k1':wr.cell? ⟨g,off+1,none⟩=some (.iface T2 x2):=(HB.out.cell (p:=⟨g,off+1,none⟩) hg).trans k1;have c0:wr.cell? ⟨w.heap.size,0,none⟩=some (.pointer (some ⟨tb,0,none⟩)):=aA ((HB0.out.block w.heap.size (by omega)).trans HW1.out) 0;have hnr:wr.ownsRow (w.heap.size+1) PT 1 u8 l.length nvs:=by have:=HQ.out.nrow;rwa [hwk] at this
     have hvr:wr.ownsRow (w.heap.size+1) PT 1 u9 l.length vvs:=by have:=HQ.out.vrow;rwa [hwk] at this
     have HVr:Hid (wr.ownsRow (w.heap.size+1) PT 1 u9 l.length vvs):=hvr;have HSt:Hid (Stp M w M wr):=Stp.of_below HB.out;have HNm:Hid (RepP (fun k=>¬M k) (m+1) wr (.iface 115 u8) (.agg (l.map Pl.fstOf))):=own_rep hMw (HN1.out.mono (fun _ _ h=>h.go HSt.out)) (by simpa using hnr) (by simpa using hlen);have HBd2:Hid (RepP (fun k=>¬M k) (m+1) wr (.iface T2 x2) bd):=HBd.out.go HSt.out;obtain⟨aon,capn,rfl,_⟩:=bC hnr;have hvl:vvs.length=l.length:=by have:=hvr.1;omega
     have hnl:nvs.length=l.length:=by have:=hnr.1;omega
     rw [hnl] at HNm ⊢;have HRr:Hid (Rdr M wr s tb mb ps):=HR.out.below HB.out;have HLm:Hid (RepP (fun k=>¬M k) (m+1+1) (wr.alloc (.cells #[.iface 117 (.string ⟨#[108,97,109,98,100,97]⟩),.iface 115 (.slice aon l.length capn),.iface T2 x2] PT (0,0))) (.iface 115 (.slice (some ⟨wr.heap.size,0,none⟩) 3 3)) (.agg [.lit (.string Pl.lambdaW),.agg (l.map Pl.fstOf),bd])):=rR HRr.out.mlt HNm.out HBd2.out _ rfl;have HK:Hid (∀(wz:World)(slz:Value),Below (wr.heap.size+1) (wr.alloc (.cells #[.iface 117 (.string ⟨#[108,97,109,98,100,97]⟩),.iface 115 (.slice aon l.length capn),.iface T2 x2] PT (0,0))) wz->DRow M wz slz (.iface 115 (.slice (some ⟨wr.heap.size,0,none⟩) 3 3)::vvs)->Calls prog 156 #[.agg #[.pointer (some ⟨tb,0,none⟩)],slz] wz fun e w'=>∃v ev,e=.returned (.tuple #[v,ev])/\Hid (FmQ M w s tb mb ps o (tsz (m+1) (.agg l)+tsz (m+1) bd) v ev w')):=fun wz slz h1 h2 =>zW m HF.out HL.out M w _ s tb mb ps l bd bs _ vvs HR.out (HB.out.alloc (by omega) _) HA.out HBb.out.2 HBb.out.1 HP.out hlen HLm.out HV1.out HZ.out.1 o HO.out wz slz (by simpa using h1) h2;have hone:∀u∈vvs,u.oneCell'=true:=fun u hu=>by obtain⟨T,x,rfl⟩:=HV1.out.iface u hu;rfl
     have HMw:Hid (∀j,M j->j<w.heap.size+1):=hMw;have q1:∀o1:Obj,(wr.alloc o1).cell? ⟨w.heap.size,0,none⟩=some (.pointer (some ⟨tb,0,none⟩)):=fun o1=>((bB wr o1).cell (p:=⟨w.heap.size,0,none⟩) (by show w.heap.size<_;omega)).trans c0;have q2:∀o1 o2:Obj,((wr.alloc o1).alloc o2).cell? ⟨w.heap.size,0,none⟩=some (.pointer (some ⟨tb,0,none⟩)):=fun o1 o2=>((bA wr o1 o2).cell (p:=⟨w.heap.size,0,none⟩) (by show w.heap.size<_;omega)).trans c0;have q3:∀o1:Obj,(wr.alloc o1).cell? ⟨g,off+1,none⟩=some (.iface T2 x2):=fun o1=>((bB wr o1).cell (p:=⟨g,off+1,none⟩) (by show g<_;omega)).trans k1';clear hk hlt HNm HBd2 HP hnl HQ hnr hvr hMw k0;by_cases hz:l.length=0
     ·have hl0:l=[]:=List.eq_nil_of_length_eq_zero hz;subst hl0;obtain rfl:vvs=[]:=List.eq_nil_of_length_eq_zero hvl;obtain⟨aov,capv,rfl,_⟩:=bC HVr.out;have HS1:Hid (∀o:Obj,DRow M ((wr.alloc o).alloc (.cells #[.iface 115 (.slice (some ⟨wr.heap.size,0,none⟩) 3 3)] PT)).drew (.slice (some ⟨wr.heap.size+1,0,none⟩) 1 1) [.iface 115 (.slice (some ⟨wr.heap.size,0,none⟩) 3 3)]):=fun o=>by have:=qV (M:=M) (fun j hj=>by have:=HMw.out j hj;omega) (qU (wr.alloc o) PT (base:=w.heap.size+1) (by simp;omega) (.iface 115 (.slice (some ⟨wr.heap.size,0,none⟩) 3 3)));rw [show(wr.alloc o).heap.size=wr.heap.size+1 by simp] at this;exact Sl.stp (Stp.of_below (Below.refl _ _).drew) this
      have HKz:Hid (Calls prog 156 #[.agg #[.pointer (some ⟨tb,0,none⟩)],.slice (some ⟨wr.heap.size+1,0,none⟩) 1 1] ((wr.alloc (.cells #[.iface 117 (.string ⟨#[108,97,109,98,100,97]⟩),.iface 115 (.slice aon 0 capn),.iface T2 x2] 109)).alloc (.cells #[.iface 115 (.slice (some ⟨wr.heap.size,0,none⟩) 3 3)] 109)).drew fun e w'=>∃v ev,e=.returned (.tuple #[v,ev])/\Hid (FmQ M w s tb mb ps o (tsz (m+1) (.agg [])+tsz (m+1) bd) v ev w')):=HK.out _ _ (((Below.refl _ _).alloc (by simp) _).drew) (HS1.out _)
      go_upto_region 60 with fail
      go_region_law (first | (refine iC (by rfl) _ _ 115 (by rfl) 109 i0 underlying115 hi0 ⟨wr.heap.size+1,0,none⟩ 1 1 (Nat.le_refl _) _ _ (by rfl) (by rfl) ?_) | (refine kO (by rfl) 156 _ _ _ (by rfl) func156 (by kernel_rfl) rfl _ _ (by rfl) (by rfl) HKz.out ?_;rintro e w2 ⟨v,ev,rfl,HQ⟩;refine⟨_,rfl,?_⟩))
      all_goals
       go_wp2_with fail
       go_ret2;obtain⟨hg,t,h1,h2,h3⟩:=HQ.out;rcases h3 with⟨r,a1,rfl,a3,a4⟩ | ⟨a1,a2,a3,es,rfl⟩
       ·exact⟨hg,t,h1,by rw [HZ.out.2];exact h2,.inl ⟨r,_,a1,rfl,a3,a4⟩⟩
       ·exact⟨hg,t,h1,by rw [HZ.out.2];exact h2,.inr ⟨a1,a2,a3,_,_,rfl⟩⟩
     ·obtain⟨g7,cap7,rfl,_,_⟩:=HVr.out.form (by omega)
      have HO1:Hid (∀(o:Obj)(u:Value),((wr.alloc o).alloc (.cells #[u] PT)).drew.ownsRow (wr.heap.size+1) PT 1 (.slice (some ⟨wr.heap.size+1,0,none⟩) 1 1) 1 [u]):=fun o u=>by
       have e:(wr.alloc o).heap.size=wr.heap.size+1:=by simp
       have:=qU (wr.alloc o) PT (Nat.le_refl _) u;rw [e] at this;exact this
      have HO7:Hid (∀o1 o2:Obj,((wr.alloc o1).alloc o2).drew.ownsRow (w.heap.size+1) PT 1 (.slice (some ⟨g7,0,none⟩) l.length cap7) l.length vvs):=fun o1 o2=>(HVr.out.alloc o1).alloc o2;have HB4:Hid (∀o1 o2:Obj,Below (wr.heap.size+1) (wr.alloc o1) ((wr.alloc o1).alloc o2).drew):=fun o1 o2=>((Below.refl _ _).alloc (by simp) o2).drew
      have HKz:Hid (∀(w6:World)(g6 cap6:Nat),w6.ownsRow (wr.heap.size+1) PT 1 (.slice (some ⟨g6,0,none⟩) (1+l.length) cap6) (1+l.length) ([.iface 115 (.slice (some ⟨wr.heap.size,0,none⟩) 3 3)]++vvs)->((wr.alloc (.cells #[.iface 117 (.string ⟨#[108,97,109,98,100,97]⟩),.iface 115 (.slice aon l.length capn),.iface T2 x2] 109)).alloc (.cells #[.iface 115 (.slice (some ⟨wr.heap.size,0,none⟩) 3 3)] 109)).drew.grownBy w6 (Value.ownBlock (.slice (some ⟨wr.heap.size+1,0,none⟩) 1 1)) ->
        Calls prog 156 #[.agg #[.pointer (some ⟨tb,0,none⟩)],.slice (some ⟨g6,0,none⟩) (1+l.length) cap6] w6 (fun e w'=>∃v ev,e=.returned (.tuple #[v,ev])/\Hid (FmQ M w s tb mb ps o (tsz (m+1) (.agg l)+tsz (m+1) bd) v ev w'))/\w6.cell? ⟨w.heap.size,0,none⟩=some (.pointer (some ⟨tb,0,none⟩))):=fun w6 g6 cap6 h1 h2=>by
       have hb6:Below (wr.heap.size+1) (wr.alloc (.cells #[.iface 117 (.string ⟨#[108,97,109,98,100,97]⟩),.iface 115 (.slice aon l.length capn),.iface T2 x2] PT (0,0))) w6:=(HB4.out _ _).grown h2 (by show _<=((wr.alloc _).alloc _).heap.size;simp) (fun j hj=>by simp [Value.ownBlock] at hj;omega);refine⟨HK.out w6 _ hb6 (qV (fun j hj=>by have:=HMw.out j hj;omega) h1),?_⟩;exact(hb6.cell (p:=⟨w.heap.size,0,none⟩) (by show w.heap.size<_;omega)).trans (q1 _)
      go_upto_region 60 with fail
      go_region_law (first | (refine step_append_lies _ (by rfl) _ _ 115 (by rfl) (wr.heap.size+1) 109 i0 .nilIface 1 16 underlying115 hi0 hz0 hz1 hz2 rfl (by decide) (.slice (some ⟨wr.heap.size+1,0,none⟩) 1 1) 1 _ (by rfl) (HO1.out _ _) ⟨g7,0,none⟩ l.length cap7 vvs (by rfl) (by omega) ((HO7.out _ _).cells rfl) hone (by omega) (by unfold maxLen;omega) (by omega) (by show _<=((wr.alloc _).alloc _).heap.size;simp) (wr.heap.size+1+1) (by show((wr.alloc _).alloc _).heap.size=_;simp) ?_;intro g6 cap6 w6 hown6 hgrow6 _ _;obtain⟨hk6,c6⟩:=HKz.out w6 g6 cap6 hown6 hgrow6;have HK6:Hid (Calls _ _ _ _ _):=hk6;clear hown6 hgrow6 hk6) | (refine kO (by rfl) 156 _ _ _ (by rfl) func156 (by kernel_rfl) rfl _ _ (by rfl) (by rfl) HK6.out ?_;rintro e w2 ⟨v,ev,rfl,HQ⟩;refine⟨_,rfl,?_⟩))
      all_goals
       go_wp2_with fail
       go_ret2;obtain⟨hg,t,h1,h2,h3⟩:=HQ.out;rcases h3 with⟨r,a1,rfl,a3,a4⟩ | ⟨a1,a2,a3,es,rfl⟩
       ·exact⟨hg,t,h1,by rw [HZ.out.2];exact h2,.inl ⟨r,_,a1,rfl,a3,a4⟩⟩
       ·exact⟨hg,t,h1,by rw [HZ.out.2];exact h2,.inr ⟨a1,a2,a3,_,_,rfl⟩⟩
  ·have HE:Hid (o=none):=show o=none from by rw [HO.out,pD hls];rfl
   obtain⟨y,hy⟩:=r1.no_list hls;clear r1 hls;rcases hy with rfl | rfl | rfl
   ·go_enter func155,ntmps155
    go_wp2_with (go_at_call 149;refine(aS _ _).mono ?_;rintro e w' ⟨rfl,rfl⟩)
    go_ret2;exact⟨aI (bB w _),s,SgR.refl _,Nat.le_add_right _ _,.inr ⟨HE.out,rfl,HR.out.below (bB w _),_,_,rfl⟩⟩
   ·go_enter func155,ntmps155
    go_wp2_with (go_at_call 149;refine(aS _ _).mono ?_;rintro e w' ⟨rfl,rfl⟩)
    go_ret2;exact⟨aI (bB w _),s,SgR.refl _,Nat.le_add_right _ _,.inr ⟨HE.out,rfl,HR.out.below (bB w _),_,_,rfl⟩⟩
   ·go_enter func155,ntmps155
    go_wp2_with (go_at_call 149;refine(aS _ _).mono ?_;rintro e w' ⟨rfl,rfl⟩)
    go_ret2;exact⟨aI (bB w _),s,SgR.refl _,Nat.le_add_right _ _,.inr ⟨HE.out,rfl,HR.out.below (bB w _),_,_,rfl⟩⟩
 ·have HE:Hid (o=none):=show o=none from by rw [ho,vY h2];rfl
  obtain⟨ao,cap,rfl,_⟩:=Sl.slOf hS;have hne:((vs.length:Int)!=2)=true:=by simp;omega
  clear hA hF hL h2 hvl hS hR hB hz ho;go_enter func155,ntmps155;go_wp2_with (go_at_call 149;refine(aS _ _).mono ?_;rintro e w' ⟨rfl,rfl⟩);go_ret2;exact⟨aI (bB w _),s,SgR.refl _,Nat.le_add_right _ _,.inr ⟨HE.out,rfl,HR.out.below (bB w _),_,_,rfl⟩⟩
end
end Go.Proofs.YtkgbdddkcjpgfaaGreatDoor
