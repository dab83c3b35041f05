import Derived.Test.YtkgbdddkcjpgfaaGreatDoorC17
namespace Go.Proofs.YtkgbdddkcjpgfaaGreatDoor
set_option maxHeartbeats 1000000
set_option maxRecDepth 100000
open Go.Proofs.Tryz
open Pl (PV FR Byt formOf tsz mkF kwB fmF isName)
section
open Go.RowKit
variable {M:Nat->Prop} {n:Nat} {w:World}
theorem lU(M:Nat->Prop)(w:World)(s:Sg)(tb mb:Nat)(ps:List (PV×PV))(sl u:Value)(us:List Value)(ts:List Tr)(o:FR)(z:Nat)(hR:Rdr M w s tb mb ps)(hS:DRow M w sl (u::us))(hk:Calls prog 65 #[sl] (w.alloc (rdO tb)) fun e w'=>e=.returned (.string ⟨(eG ts).toArray⟩)/\w.alloc (rdO tb)=w')(hw:eG ts=[100,101,102,105,110,101])(ho:o=none) :Calls prog 112 #[rdV tb,sl] w fun e w'=>FmPost M w s tb mb ps o z e w':=by
 rw [hw] at hk;obtain⟨g,off,cap,rfl,hcap,hg,c0,_⟩:=(Sl.slOf hS).cell0;have HK:=(show Hid (∀L c,L=us.length+1->c=cap->Calls prog 65 #[.slice (some ⟨g,off,none⟩) L c] (w.alloc (rdO tb)) fun e w'=>e=.returned (.string ⟨([100,101,102,105,110,101]:List UInt8).toArray⟩)/\w.alloc (rdO tb)=w') from by rintro _ _ rfl rfl;exact hk)
 have hz:((us.length:Int)+1==0)=false:=by simp;omega
 have cw:(w.alloc (rdO tb)).cell? ⟨w.heap.size,0,none⟩=some (.pointer (some ⟨tb,0,none⟩)):=aA (heap_alloc_new w (rdO tb)) 0;have HR:Hid (Rdr M w s tb mb ps):=hR;have HE:Hid (o=none):=ho;unfold rdV;clear hS hk hw hR ho;go_enter func112,ntmps112;go_wp2_with (first | (go_at_call 65;refine(HK.out _ _ (by omega) (by omega)).mono ?_;rintro e w' ⟨rfl,rfl⟩) | (go_at_call 149;refine(aS _ _).mono ?_;rintro e w' ⟨rfl,rfl⟩))
 ·go_ret2;exact⟨aI (bB w _),s,SgR.refl _,Nat.le_add_right _ _,.inr ⟨HE.out,rfl,HR.out.below (bB w _),_,_,rfl⟩⟩
 ·go_ret2;exact⟨aI (bB w _),s,SgR.refl _,Nat.le_add_right _ _,.inr ⟨HE.out,rfl,HR.out.below (bB w _),_,_,rfl⟩⟩
theorem oV(M:Nat->Prop)(w:World)(s:Sg)(tb mb:Nat)(ps:List (PV×PV))(sl u:Value)(us:List Value)(ts:List Tr)(o:FR)(z:Nat)(hS:DRow M w sl (u::us))(hk:Calls prog 65 #[sl] (w.alloc (rdO tb)) fun e w'=>e=.returned (.string ⟨(eG ts).toArray⟩)/\w.alloc (rdO tb)=w')(hw:eG ts=[])
  (hC:Calls prog 156 #[rdV tb,sl] (w.alloc (rdO tb)) fun e w'=>FmPost M (w.alloc (rdO tb)) s tb mb ps o z e w') :
  Calls prog 112 #[rdV tb,sl] w fun e w'=>FmPost M w s tb mb ps o z e w':=by
 rw [hw] at hk;obtain⟨g,off,cap,rfl,hcap,hg,c0,_⟩:=(Sl.slOf hS).cell0;have HK:=(show Hid (∀L c,L=us.length+1->c=cap->Calls prog 65 #[.slice (some ⟨g,off,none⟩) L c] (w.alloc (rdO tb)) fun e w'=>e=.returned (.string ⟨([]:List UInt8).toArray⟩)/\w.alloc (rdO tb)=w') from by rintro _ _ rfl rfl;exact hk)
 have HC:Hid (∀L c,L=us.length+1->c=cap->Calls prog 156 #[.agg #[.pointer (some ⟨tb,0,none⟩)],.slice (some ⟨g,off,none⟩) L c] (w.alloc (rdO tb)) fun e w'=>∃v ev,e=.returned (.tuple #[v,ev])/\Hid (FmQ M w s tb mb ps o z v ev w')):=by rintro _ _ rfl rfl;exact iA (bB w _) hC
 have hz:((us.length:Int)+1==0)=false:=by simp;omega
 have cw:(w.alloc (rdO tb)).cell? ⟨w.heap.size,0,none⟩=some (.pointer (some ⟨tb,0,none⟩)):=aA (heap_alloc_new w (rdO tb)) 0;unfold rdV;clear hS hk hw hC;go_enter func112,ntmps112;go_wp2_with (go_at_call 65;refine(HK.out _ _ (by omega) (by omega)).mono ?_;rintro e w' ⟨rfl,rfl⟩)
 ·refine(HC.out _ _ (by omega) (by omega)).mono ?_;rintro e w2 ⟨v,ev,rfl,HQ⟩;go_wp2_with fail;go_ret2;exact HQ.out.post
 ·refine(HC.out _ _ (by omega) (by omega)).mono ?_;rintro e w2 ⟨v,ev,rfl,HQ⟩;go_wp2_with fail;go_ret2;exact HQ.out.post
theorem sG(M:Nat->Prop)(w:World)(s:Sg)(tb mb:Nat)(ps:List (PV×PV))(sl:Value)(o:FR)(z:Nat)(hR:Rdr M w s tb mb ps)(hS:DRow M w sl [])(ho:o=none) :Calls prog 112 #[rdV tb,sl] w fun e w'=>FmPost M w s tb mb ps o z e w':=by obtain⟨ao,cap,rfl,_⟩:=Sl.slOf hS;have HR:Hid (Rdr M w s tb mb ps):=hR;have HE:Hid (o=none):=ho;unfold rdV;clear hS hR ho;go_enter func112,ntmps112;go_wp2_with (go_at_call 149;refine(aS _ _).mono ?_;rintro e w' ⟨rfl,rfl⟩);go_ret2;exact⟨aI (bB w _),s,SgR.refl _,Nat.le_add_right _ _,.inr ⟨HE.out,rfl,HR.out.below (bB w _),_,_,rfl⟩⟩
theorem wI{ts:List Tr}{h:List UInt8}(hk:Pl.headKw ts=some h):kwB h=true:=by
 unfold Pl.headKw at hk;split at hk
 ·split at hk
  ·obtain rfl:=Option.some.inj hk;assumption
  ·simp at hk
 ·simp at hk
theorem pF{tb:Nat}{sl:Value}{vs:List Value}{ts:List Tr}(hS:DRow M w sl vs)(hA:AllD M n w vs ts):Calls prog 65 #[sl] (w.alloc (rdO tb)) fun e w'=>e=.returned (.string ⟨(eG ts).toArray⟩)/\w.alloc (rdO tb)=w' :=oX _ n sl vs ts (w.alloc (rdO tb)) w (Sl.slOf (Sl.stp (Stp.of_below (bB w (rdO tb))) hS)) hA.1 (fun u x hu hx=>hA.2 0 u x (by rw [<- List.head?_eq_getElem?];exact hu) (by rw [<- List.head?_eq_getElem?];exact hx))
theorem AllD.tail{u:Value}{us:List Value}{t:Tr}{r:List Tr}(h:AllD M n w (u::us) (t::r)):AllD M n w us r:=All2.drop h 1
theorem AllD.below{w':World}{us:List Value}{r:List Tr}(h:AllD M n w us r)(hb:Below w.heap.size w w'):AllD M n w' us r:=All2.mono h (fun _ _ h=>h.go (Stp.of_below hb))
theorem p_rlist(n:Nat)(hn:n<=1000)(hF:FSaid n)(hL:LamSaid n)(M:Nat->Prop)(w:World)(s:Sg)(tb mb:Nat)(ps:List (PV×PV))(sl:Value)(vs:List Value)(ts:List Tr)(hR:Rdr M w s tb mb ps)(hS:DRow M w sl vs)(hA:AllD M n w vs ts)(hB:∀x∈ts,cL n x)(hlen:ts.length<=1000)(hz:s.ns.length+(ts.map (tsz n)).sum<=NsMax) :Calls prog 112 #[rdV tb,sl] w fun e w'=>FmPost M w s tb mb ps (fmF (Pl.listF (formOf n) ts) ps.length) (ts.map (tsz n)).sum e w':=by
 have hb:=bB w (rdO tb);have hR1:=hR.below hb
 match vs,ts,hA.1 with
 | [],[],_=>exact sG M w s tb mb ps sl _ _ hR hS rfl
 | u::us,t::r,_ =>
  have hlr:r.length<=1000:=by simp at hlen;omega
  have hk:=pF (tb:=tb) hS hA;have hA1:=(AllD.tail hA).below hb;have hB1:∀x∈r,cL n x:=fun x hx=>hB x (List.mem_cons_of_mem _ hx);have hle:(r.map (tsz n)).sum<=((t::r).map (tsz n)).sum:=by simp
  have hz1:s.ns.length+(r.map (tsz n)).sum<=NsMax:=by omega
  cases hh:Pl.headKw (t::r) with
  | none =>
   have hk2:eG (t::r)=[]:=by unfold eG;rw [hh]
   have hd:Pl.listF (formOf n) (t::r)=(Pl.allF (formOf n) (t::r)).map fun l=>mkF .call [] .nil l []:=by show(match Pl.headKw (t::r) with | some h=>Pl.keyF (formOf n) (.agg (t::r)) h r | none=>(Pl.allF (formOf n) (t::r)).map fun l=>mkF .call [] .nil l [])=_;rw [hh]
   refine oV M w s tb mb ps sl u us (t::r) _ _ hS hk hk2 ?_;refine p_call M _ s tb mb ps sl (u::us) ((t::r).map fun x=>fmF (formOf n x)) ((t::r).map (tsz n)) hR1 (Sl.stp (Stp.of_below hb) hS) (by rw [List.length_map];exact hA.1) (by simp) (by rw [List.length_map];omega) (by simp) hz hA.iface ?_ _ ?_
   ·intro i v F z hv hf hz;rw [List.getElem?_map,Option.map_eq_some_iff] at hf hz;obtain⟨x,hx,rfl⟩:=hf;obtain⟨x',hx',rfl⟩:=hz;rw [hx] at hx';obtain rfl:=Option.some.inj hx';exact hF M _ v x ((hA.2 i v x hv hx).go (Stp.of_below hb)) (hB x (List.mem_of_getElem? hx))
   ·rw [hd,Pl.seqL_eq]
    cases Pl.allF (formOf n) (t::r) with
    | none=>rfl
    | some l=>simp [fmF,mkF,Pl.settle_other]
  | some h =>
   have hk2:eG (t::r)=h:=by unfold eG;rw [hh]
   have hd:Pl.listF (formOf n) (t::r)=Pl.keyF (formOf n) (.agg (t::r)) h r:=by show(match Pl.headKw (t::r) with | some h=>Pl.keyF (formOf n) (.agg (t::r)) h r | none=>(Pl.allF (formOf n) (t::r)).map fun l=>mkF .call [] .nil l [])=_;rw [hh]
   rw [hd];refine Calls.mono (R:=fun e w'=>FmPost M w s tb mb ps (fmF (Pl.keyF (formOf n) (.agg (t::r)) h r) ps.length) (r.map (tsz n)).sum e w') ?_ (fun e w' h=>FmPost.more hle h);rcases rB (wI hh) with rfl | rfl | rfl | rfl | rfl | rfl | rfl
   ·refine nE M w s tb mb ps sl u us (t::r) _ _ hS hk hk2 (fun slz hz=>?_);exact(p_quote n hn M _ s tb mb ps slz us r t hR1 hz hA1 hB1 _ rfl).mono (fun e w' h=>h.more (Nat.zero_le _))
   ·refine lT M w s tb mb ps sl u us (t::r) _ _ hS hk hk2 (fun slz hz=>?_);exact yU n hF M _ s tb mb ps slz us r hR1 hz hA1 hB1 hlr hz1 _ rfl
   ·refine fZ M w s tb mb ps sl u us (t::r) _ _ hS hk hk2 (fun slz hz=>?_);exact qQ n hF M _ s tb mb ps slz us r hR1 hz hA1 hB1 hz1 _ rfl
   ·refine sF M w s tb mb ps sl u us (t::r) _ _ hS hk hk2 (fun slz hz=>?_);exact p_set n hF M _ s tb mb ps slz us r hR1 hz hA1 hB1 hz1 _ rfl
   ·exact lU M w s tb mb ps sl u us (t::r) _ _ hR hS hk hk2 rfl
   ·refine nF M w s tb mb ps sl u us (t::r) _ _ hS hk hk2 (fun slz hz=>?_);exact p_begin n hF M _ s tb mb ps slz us r hR1 hz hA1 hB1 hlr hz1 _ rfl
   ·refine sH M w s tb mb ps sl u us (t::r) _ _ hS hk hk2 (fun slz hz=>?_);exact p_let n hF hL M _ s tb mb ps slz us r hR1 hz hA1 hB1 hz1 _ rfl
theorem jG(M:Nat->Prop)(w:World)(s:Sg)(tb mb:Nat)(ps:List (PV×PV))(sl:Value)(vs:List Value)(o:FR)(z:Nat)(hS:DRow M w sl vs)(hC:Calls prog 112 #[rdV tb,sl] (w.alloc (rdO tb)) fun e w'=>FmPost M (w.alloc (rdO tb)) s tb mb ps o z e w') :Calls prog 67 #[rdV tb,.iface 115 sl] w fun e w'=>FmPost M w s tb mb ps o z e w':=by have as4:=Tryz.asList_List;obtain⟨ao,cap,rfl,_⟩:=Sl.slOf hS;have HC:Hid _:=iA (bB w _) hC;unfold rdV at HC ⊢;clear hS hC;go_enter func67,ntmps67;go_wp2_with fail;refine Calls.mono HC.out ?_;rintro e w2 ⟨v,ev,rfl,HQ⟩;go_wp2_with fail;go_ret2;exact HQ.out.post
theorem oY(M:Nat->Prop)(w:World)(s:Sg)(tb mb:Nat)(ps:List (PV×PV))(x:Byt)(o:FR)(hR:Rdr M w s tb mb ps)(hx:x.length<=300)(hz:s.ns.length+1<=NsMax)(ho:o=fmF (if kwB x then none else some (mkF .name x .nil [] [])) ps.length) :Calls prog 67 #[rdV tb,.iface 117 (.string ⟨x.toArray⟩)] w fun e w'=>FmPost M w s tb mb ps o 1 e w':=by
 have as1:=Tryz.asName_List;have as2:=Tryz.asName_Name;have HR:Hid (Rdr M w s tb mb ps):=hR;have HO:Hid (o=fmF (if kwB x then none else some (mkF .name x .nil [] [])) ps.length):=ho;have hb:=bB w (rdO tb);have HC:=(show Hid _ from qP (fun _=>True) 1 w M (w.alloc (rdO tb)) s tb mb ps (.iface 117 (.string ⟨x.toArray⟩)) (.lit (.string x)) rfl (hR.below hb) (fun y hy=>by injection hy with hy;injection hy with hy;subst hy;exact⟨by omega,hz⟩))
 unfold rdV at HC ⊢;clear hR hx hz ho hb;go_enter func67,ntmps67;go_wp2_with fail;refine Calls.mono HC.out ?_;rintro e w2 h;obtain⟨hg,⟨y,h1,h2,rfl,h4⟩ | ⟨h1,h2,es,rfl⟩⟩:=h
 ·injection h1 with h1
  injection h1 with h1
  subst h1;have HG:Hid (w.grownBy w2 (some mb)):=aM (aI (bB w _)) hg;have HX:Hid (Rdr M w2 (s.named x) tb mb ps):=h4;have HO2:Hid (o=some (mkF .name x .nil [] [],[])):=show o=_ from by rw [HO.out,h2];simp [fmF,mkF,Pl.settle_other,Pl.settleL_nil]
  clear hg h4 h2 HC;go_wp2_with fail;go_ret2;exact⟨aM HG.out (aI (bB w2 _)),s.named x,s.named_r x,dE _ _,.inl ⟨_,_,HO2.out,rfl,by rw [List.append_nil];exact HX.out.below (bB w2 _),.name _ _ _ _ _ _ (d8 s.ns x)⟩⟩
 ·have HG:Hid (w.grownBy w2 (some mb)):=aM (aI (bB w _)) hg;have HX:Hid (Rdr M w2 s tb mb ps):=h2
  have HO2:Hid (o=none):=show o=_ from by
   rw [HO.out];have:kwB x=true:=by simpa [isName] using h1
   rw [this];rfl
  clear hg h2 h1 HC;unfold aY;go_wp2_with fail;go_ret2;exact⟨aM HG.out (aI (bB w2 _)),s,SgR.refl _,Nat.le_add_right _ _,.inr ⟨HO2.out,rfl,HX.out.below (bB w2 _),_,_,rfl⟩⟩
theorem hZ(M:Nat->Prop)(w:World)(s:Sg)(tb mb:Nat)(ps:List (PV×PV))(v:Value)(t:Tr)(n:Nat)(o:FR)(hR:Rdr M w s tb mb ps)(hv:RepP (fun k=>¬M k) (n+1) w v t)(hB:cL (n+1) t)(ht:(∃k m,t=.lit (.int k m))\/∃b,t=.lit (.bool b))(ho:o=fmF (some (mkF .const [] t [] [])) ps.length) :Calls prog 67 #[rdV tb,v] w fun e w'=>FmPost M w s tb mb ps o 1 e w':=by
 have as1:=Tryz.asNumber_Name;have as2:=Tryz.asTruth_Name;have as3:=Tryz.asNumber_List;have as4:=Tryz.asTruth_List;have HR1:Hid (Rdr M (w.alloc (rdO tb)) s tb mb ps):=hR.below (bB w (rdO tb));have hq:Pl.quoted t=t/\isQ t=false:=by rcases ht with⟨k,m,rfl⟩ | ⟨b,rfl⟩<;>exact⟨rfl,rfl⟩
 have HQ:Hid (false=isQ t):=hq.2.symm;have HO:Hid (o=some (Pl.PF.mk .const [] t (Pl.made 1000 ps.length t).1 [] [],(Pl.made 1000 ps.length t).2)):=show o=_ from by rw [ho];simp [fmF,mkF,Pl.settle_const,hq.1]
 have HC:=(show Hid _ from p_of 1000 M _ _ s ps v t HR1.out.pairs HR1.out.mlt (by
  have h1:RepP (fun k=>¬M k) 1 w v t:=by rcases ht with⟨k,m,rfl⟩ | ⟨b,rfl⟩<;>exact hv
  exact RepP.up _ _ _ _ (show 1<=1000 by omega) (h1.later (bB w (rdO tb)))) (mF (n+1) 1000 v t hv hB))
 clear hR ho hq hB;unfold rdV;rcases ht with⟨k,m,rfl⟩ | ⟨b,rfl⟩
 ·obtain⟨k',rfl,_⟩:=hv;go_enter func67,ntmps67;go_wp2_with fail;refine Calls.mono HC.out ?_;rintro e w2 ⟨v,t,rfl,k1,k2,k3,k4⟩;have HK:Hid (RV t v _):=k1;have HP:Hid (Rdr M w2 t tb mb (ps++_)):=show Rdr _ _ _ _ _ _ from⟨by obtain⟨l,rfl⟩:=k4;exact HR1.out.tab.keep (k3.block _ HR1.out.tab.lt.1) (k3.block _ HR1.out.tab.lt.2),k2,HR1.out.mmb,HR1.out.mtb,fun j hj=>Nat.lt_of_lt_of_le (HR1.out.mlt j hj) k3.size⟩;have HG:Hid (w.grownBy w2 (some mb)):=aI ((bB w _).trans (k3.mono (bB w _).size));have HT:Hid (SgR s t/\t.ns.length<=s.ns.length+1):=⟨k4.r,by obtain⟨l,rfl⟩:=k4;exact Nat.le_add_right _ _⟩
  obtain⟨T2,y2,rfl⟩:=k1.iface;clear k1 k2 k3 k4 HR1;go_wp2_with fail;go_ret2;exact⟨HG.out,t,HT.out.1,HT.out.2,.inl ⟨_,_,HO.out,rfl,HP.out,.const _ false [] _ _ [] [] HK.out HQ.out⟩⟩
 ·obtain rfl:=(show v=_ from hv)
  clear hv;go_enter func67,ntmps67;go_wp2_with fail;refine Calls.mono HC.out ?_;rintro e w2 ⟨v,t,rfl,k1,k2,k3,k4⟩;have HK:Hid (RV t v _):=k1;have HP:Hid (Rdr M w2 t tb mb (ps++_)):=show Rdr _ _ _ _ _ _ from⟨by obtain⟨l,rfl⟩:=k4;exact HR1.out.tab.keep (k3.block _ HR1.out.tab.lt.1) (k3.block _ HR1.out.tab.lt.2),k2,HR1.out.mmb,HR1.out.mtb,fun j hj=>Nat.lt_of_lt_of_le (HR1.out.mlt j hj) k3.size⟩;have HG:Hid (w.grownBy w2 (some mb)):=aI ((bB w _).trans (k3.mono (bB w _).size));have HT:Hid (SgR s t/\t.ns.length<=s.ns.length+1):=⟨k4.r,by obtain⟨l,rfl⟩:=k4;exact Nat.le_add_right _ _⟩
  obtain⟨T2,y2,rfl⟩:=k1.iface;clear k1 k2 k3 k4 HR1;go_wp2_with fail;go_ret2;exact⟨HG.out,t,HT.out.1,HT.out.2,.inl ⟨_,_,HO.out,rfl,HP.out,.const _ false [] _ _ [] [] HK.out HQ.out⟩⟩
theorem zY(n:Nat)(hF:FSaid n):LamSaid n:=by
 intro M0 w0 v a b hv0 ba bb M w s tb mb ps hst hR hz;obtain⟨sl,vs,rfl,hS,hA,_⟩:=(hv0.go hst).drow;have b1:=bB w (rdO tb);have b2:=bB (w.alloc (rdO tb)) (rdO tb);have hS1:DRow M (w.alloc (rdO tb)) sl vs:=Sl.stp (Stp.of_below b1) hS;have hA1:=AllD.below hA b1;refine jG M w s tb mb ps sl vs _ _ hS ?_
 match vs,hA.1,hS1,hA1 with
 | [u,v1,v2],_,hS1,hA1 =>
  refine fZ M _ s tb mb ps sl u [v1,v2] [.lit (.string Pl.lambdaW),a,b] _ _ hS1 (pF hS1 hA1) rfl (fun slz hzz=>?_)
  have:=qQ n hF M _ s tb mb ps slz [v1,v2] [a,b] ((hR.below b1).below b2) hzz (AllD.below (AllD.tail hA1) b2) (fun x hx=>by
   simp only [List.mem_cons,List.not_mem_nil,or_false] at hx;rcases hx with rfl | rfl
   ·exact ba
   ·exact bb) (by simpa using hz) _ rfl
  rw [show([a,b].map (tsz n)).sum=tsz n a+tsz n b from by simp] at this;exact this
theorem wP:∀n,n<=1001->FSaid n
 | 0,_=>fun _ _ _ _ h=>h.elim
 | n+1,hn=>by
  have ih:=wP n (by omega);intro M0 w0 v t hv0 hB M w s tb mb ps hst hR hz;have hv:=hv0.go hst;have b1:=bB w (rdO tb)
  match t,hv,hB,hz with
  | .lit (.int k m),hv,hB,hz=>exact hZ M w s tb mb ps v _ n _ hR hv hB (.inl ⟨_,_,rfl⟩) rfl
  | .lit (.bool b),hv,hB,hz=>exact hZ M w s tb mb ps v _ n _ hR hv hB (.inr ⟨_,rfl⟩) rfl
  | .lit (.string x),hv,hB,hz =>
   obtain rfl:=(show v=_ from hv)
   exact oY M w s tb mb ps x _ hR hB hz rfl
  | .agg ts,hv,hB,hz =>obtain⟨sl,vs,rfl,hS,hA,hl⟩:=hv.drow;exact jG M w s tb mb ps sl vs _ _ hS (p_rlist n (by omega) ih (zY n ih) M _ s tb mb ps sl vs ts (hR.below b1) (Sl.stp (Stp.of_below b1) hS) (AllD.below hA b1) hB hl hz)
end
end Go.Proofs.YtkgbdddkcjpgfaaGreatDoor
