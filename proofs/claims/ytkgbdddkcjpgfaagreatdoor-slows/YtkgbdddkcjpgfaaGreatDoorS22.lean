import Derived.Test.YtkgbdddkcjpgfaaGreatDoorS21
import Derived.LaidEql
import Derived.Stop.Asserts
import Derived.RowKitTokens
namespace Go.Proofs.YtkgbdddkcjpgfaaGreatDoor
set_option maxHeartbeats 2000000
set_option maxRecDepth 100000
open Go.Proofs.Tryz
open Pl (PV FR Byt formOf tsz isForm mkF kwB fmF isName)
section
open Go.RowKit
variable {n:Nat} {M:Nat->Prop} {w:World}
theorem lU(M:Nat->Prop)(w:World)(s:Sg)(tb mb:Nat)(ps:List (PV×PV))(sl u:Value)(us:List Value)(ts:List Tr)(o:FR)(z:Nat)(hR:Rdr M w s tb mb ps)(hS:DRow M w sl (u::us))(hk:Calls prog 65 #[sl] (w.alloc (rdO tb)) fun e w'=>e=.returned (.string ⟨(eG ts).toArray⟩)/\w.alloc (rdO tb)=w')(hw:eG ts=[100,101,102,105,110,101])(ho:o=none) :Calls prog 112 #[rdV tb,sl] w fun e w'=>FmPost M w s tb mb ps o z e w':=by
 rw [hw] at hk;obtain⟨g,off,cap,rfl,hcap,hg,c0,_⟩:=(Sl.slOf hS).cell0;have HK:=(show Hid (∀L c,L=us.length+1->c=cap->Calls prog 65 #[.slice (some ⟨g,off,none⟩) L c] (w.alloc (rdO tb)) fun e w'=>e=.returned (.string ⟨([100,101,102,105,110,101]:List UInt8).toArray⟩)/\w.alloc (rdO tb)=w') from by rintro _ _ rfl rfl;exact hk)
 have hz:((us.length:Int)+1==0)=false:=by simp;omega
 have cw:(w.alloc (rdO tb)).cell? ⟨w.heap.size,0,none⟩=some (.pointer (some ⟨tb,0,none⟩)):=aA (heap_alloc_new w (rdO tb)) 0;have HR:Hid (Rdr M w s tb mb ps):=hR;have HE:Hid (o=none):=ho;unfold rdV;clear hS hk hw hR ho;go_enter func112,ntmps112;go_wp2_with (first | (go_at_call 65;refine(HK.out _ _ (by omega) (by omega)).mono ?_;rintro e w' ⟨rfl,rfl⟩) | (go_at_call 149;refine(aS _ _).mono ?_;rintro e w' ⟨rfl,rfl⟩))
 ·go_ret2;exact⟨aI (bB w _),s,SgR.refl _,Nat.le_add_right _ _,.inr ⟨HE.out,rfl,HR.out.below (bB w _),_,_,rfl⟩⟩
 ·go_ret2;exact⟨aI (bB w _),s,SgR.refl _,Nat.le_add_right _ _,.inr ⟨HE.out,rfl,HR.out.below (bB w _),_,_,rfl⟩⟩
theorem oV(M:Nat->Prop)(w:World)(s:Sg)(tb mb:Nat)(ps:List (PV×PV))(sl u:Value)(us:List Value)(ts:List Tr)(o:FR)(z:Nat)(hS:DRow M w sl (u::us))(hk:Calls prog 65 #[sl] (w.alloc (rdO tb)) fun e w'=>e=.returned (.string ⟨(eG ts).toArray⟩)/\w.alloc (rdO tb)=w')(hw:eG ts=[])
  (hC:Calls prog 156 #[rdV tb,sl] (w.alloc (rdO tb)) fun e w'=>FmPost M (w.alloc (rdO tb)) s tb mb ps o z e w') :
  Calls prog 112 #[rdV tb,sl] w fun e w'=>FmPost M w s tb mb ps o z e w':=by
 rw [hw] at hk;obtain⟨g,off,cap,rfl,hcap,hg,c0,_⟩:=(Sl.slOf hS).cell0;have HK:=(show Hid (∀L c,L=us.length+1->c=cap->Calls prog 65 #[.slice (some ⟨g,off,none⟩) L c] (w.alloc (rdO tb)) fun e w'=>e=.returned (.string ⟨([]:List UInt8).toArray⟩)/\w.alloc (rdO tb)=w') from by rintro _ _ rfl rfl;exact hk)
 have HC:Hid (∀L c,L=us.length+1->c=cap->Calls prog 156 #[.agg #[.pointer (some ⟨tb,0,none⟩)],.slice (some ⟨g,off,none⟩) L c] (w.alloc (rdO tb)) fun e w'=>∃v ev,e=.returned (.tuple #[v,ev])/\Hid (FmQ M w s tb mb ps o z v ev w')):=by rintro _ _ rfl rfl;exact iA (bB w _) hC
 have hz:((us.length:Int)+1==0)=false:=by simp;omega
 have cw:(w.alloc (rdO tb)).cell? ⟨w.heap.size,0,none⟩=some (.pointer (some ⟨tb,0,none⟩)):=aA (heap_alloc_new w (rdO tb)) 0;unfold rdV;clear hS hk hw hC;go_enter func112,ntmps112;go_wp2_with (go_at_call 65;refine(HK.out _ _ (by omega) (by omega)).mono ?_;rintro e w' ⟨rfl,rfl⟩)
 ·refine(HC.out _ _ (by omega) (by omega)).mono ?_;rintro e w2 ⟨v,ev,rfl,HQ⟩;go_wp2_with fail;go_ret2;exact HQ.out.post
 ·refine(HC.out _ _ (by omega) (by omega)).mono ?_;rintro e w2 ⟨v,ev,rfl,HQ⟩;go_wp2_with fail;go_ret2;exact HQ.out.post
theorem sG(M:Nat->Prop)(w:World)(s:Sg)(tb mb:Nat)(ps:List (PV×PV))(sl:Value)(o:FR)(z:Nat)(hR:Rdr M w s tb mb ps)(hS:DRow M w sl [])(ho:o=none) :Calls prog 112 #[rdV tb,sl] w fun e w'=>FmPost M w s tb mb ps o z e w':=by obtain⟨ao,cap,rfl,_⟩:=Sl.slOf hS;have HR:Hid (Rdr M w s tb mb ps):=hR;have HE:Hid (o=none):=ho;unfold rdV;clear hS hR ho;go_enter func112,ntmps112;go_wp2_with (go_at_call 149;refine(aS _ _).mono ?_;rintro e w' ⟨rfl,rfl⟩);go_ret2;exact⟨aI (bB w _),s,SgR.refl _,Nat.le_add_right _ _,.inr ⟨HE.out,rfl,HR.out.below (bB w _),_,_,rfl⟩⟩
theorem wI{ts:List Tr}{h:List UInt8}(hk:Pl.headKw ts=some h):kwB h=true:=by
 unfold Pl.headKw at hk;split at hk
 ·split at hk
  ·obtain rfl:=Option.some.inj hk;assumption
  ·simp at hk
 ·simp at hk
theorem pF{tb:Nat}{sl:Value}{vs:List Value}{ts:List Tr}(hS:DRow M w sl vs)(hA:AllD M n w vs ts):Calls prog 65 #[sl] (w.alloc (rdO tb)) fun e w'=>e=.returned (.string ⟨(eG ts).toArray⟩)/\w.alloc (rdO tb)=w' :=oX _ n sl vs ts (w.alloc (rdO tb)) w (Sl.slOf (Sl.stp (Stp.of_below (bB w (rdO tb))) hS)) hA.1 (fun u x hu hx=>hA.2 0 u x (by rw [<- List.head?_eq_getElem?];exact hu) (by rw [<- List.head?_eq_getElem?];exact hx))
theorem AllD.tail{u:Value}{us:List Value}{t:Tr}{r:List Tr}(h:AllD M n w (u::us) (t::r)):AllD M n w us r:=All2.drop h 1
theorem AllD.below{w':World}{us:List Value}{r:List Tr}(h:AllD M n w us r)(hb:Below w.heap.size w w'):AllD M n w' us r:=All2.mono h (fun _ _ h=>h.go (Stp.of_below hb))
theorem p_rlist(n:Nat)(hn:n<=1000)(hF:FSaid n)(hL:LamSaid n)(M:Nat->Prop)(w:World)(s:Sg)(tb mb:Nat)(ps:List (PV×PV))(sl:Value)(vs:List Value)(ts:List Tr)(hR:Rdr M w s tb mb ps)(hS:DRow M w sl vs)(hA:AllD M n w vs ts)(hB:∀x∈ts,cL n x)(hlen:ts.length<=1000)(hz:s.ns.length+(ts.map (tsz n)).sum<=NsMax) :Calls prog 112 #[rdV tb,sl] w fun e w'=>FmPost M w s tb mb ps (fmF (Pl.listF (formOf n) ts) ps.length) (ts.map (tsz n)).sum e w':=by
 have hb:=bB w (rdO tb);have hR1:=hR.below hb
 match vs,ts,hA.1 with
 | [],[],_=>exact sG M w s tb mb ps sl _ _ hR hS rfl
 | u::us,t::r,_ =>
  have hlr:r.length<=1000:=by simp at hlen;omega
  have hk:=pF (tb:=tb) hS hA;have hA1:=(AllD.tail hA).below hb;have hB1:∀x∈r,cL n x:=fun x hx=>hB x (List.mem_cons_of_mem _ hx);have hle:(r.map (tsz n)).sum<=((t::r).map (tsz n)).sum:=by simp
  have hz1:s.ns.length+(r.map (tsz n)).sum<=NsMax:=by omega
  cases hh:Pl.headKw (t::r) with
  | none =>
   have hk2:eG (t::r)=[]:=by unfold eG;rw [hh]
   have hd:Pl.listF (formOf n) (t::r)=(Pl.allF (formOf n) (t::r)).map fun l=>mkF .call [] .nil l []:=by show(match Pl.headKw (t::r) with | some h=>Pl.keyF (formOf n) (.agg (t::r)) h r | none=>(Pl.allF (formOf n) (t::r)).map fun l=>mkF .call [] .nil l [])=_;rw [hh]
   refine oV M w s tb mb ps sl u us (t::r) _ _ hS hk hk2 ?_;refine p_call M _ s tb mb ps sl (u::us) ((t::r).map fun x=>fmF (formOf n x)) ((t::r).map (tsz n)) hR1 (Sl.stp (Stp.of_below hb) hS) (by rw [List.length_map];exact hA.1) (by simp) (by rw [List.length_map];omega) (by simp) hz hA.iface ?_ _ ?_
   ·intro i v F z hv hf hz;rw [List.getElem?_map,Option.map_eq_some_iff] at hf hz;obtain⟨x,hx,rfl⟩:=hf;obtain⟨x',hx',rfl⟩:=hz;rw [hx] at hx';obtain rfl:=Option.some.inj hx';exact hF M _ v x ((hA.2 i v x hv hx).go (Stp.of_below hb)) (hB x (List.mem_of_getElem? hx))
   ·rw [hd,Pl.seqL_eq]
    cases Pl.allF (formOf n) (t::r) with
    | none=>rfl
    | some l=>simp [fmF,mkF,Pl.settle_other]
  | some h =>
   have hk2:eG (t::r)=h:=by unfold eG;rw [hh]
   have hd:Pl.listF (formOf n) (t::r)=Pl.keyF (formOf n) (.agg (t::r)) h r:=by show(match Pl.headKw (t::r) with | some h=>Pl.keyF (formOf n) (.agg (t::r)) h r | none=>(Pl.allF (formOf n) (t::r)).map fun l=>mkF .call [] .nil l [])=_;rw [hh]
   rw [hd];refine Calls.mono (R:=fun e w'=>FmPost M w s tb mb ps (fmF (Pl.keyF (formOf n) (.agg (t::r)) h r) ps.length) (r.map (tsz n)).sum e w') ?_ (fun e w' h=>FmPost.more hle h);rcases rB (wI hh) with rfl | rfl | rfl | rfl | rfl | rfl | rfl
   ·refine nE M w s tb mb ps sl u us (t::r) _ _ hS hk hk2 (fun slz hz=>?_);exact(p_quote n hn M _ s tb mb ps slz us r t hR1 hz hA1 hB1 _ rfl).mono (fun e w' h=>h.more (Nat.zero_le _))
   ·refine lT M w s tb mb ps sl u us (t::r) _ _ hS hk hk2 (fun slz hz=>?_);exact yU n hF M _ s tb mb ps slz us r hR1 hz hA1 hB1 hlr hz1 _ rfl
   ·refine fZ M w s tb mb ps sl u us (t::r) _ _ hS hk hk2 (fun slz hz=>?_);exact qQ n hF M _ s tb mb ps slz us r hR1 hz hA1 hB1 hz1 _ rfl
   ·refine sF M w s tb mb ps sl u us (t::r) _ _ hS hk hk2 (fun slz hz=>?_);exact p_set n hF M _ s tb mb ps slz us r hR1 hz hA1 hB1 hz1 _ rfl
   ·exact lU M w s tb mb ps sl u us (t::r) _ _ hR hS hk hk2 rfl
   ·refine nF M w s tb mb ps sl u us (t::r) _ _ hS hk hk2 (fun slz hz=>?_);exact p_begin n hF M _ s tb mb ps slz us r hR1 hz hA1 hB1 hlr hz1 _ rfl
   ·refine sH M w s tb mb ps sl u us (t::r) _ _ hS hk hk2 (fun slz hz=>?_);exact p_let n hF hL M _ s tb mb ps slz us r hR1 hz hA1 hB1 hz1 _ rfl
theorem jG(M:Nat->Prop)(w:World)(s:Sg)(tb mb:Nat)(ps:List (PV×PV))(sl:Value)(vs:List Value)(o:FR)(z:Nat)(hS:DRow M w sl vs)(hC:Calls prog 112 #[rdV tb,sl] (w.alloc (rdO tb)) fun e w'=>FmPost M (w.alloc (rdO tb)) s tb mb ps o z e w') :Calls prog 67 #[rdV tb,.iface 115 sl] w fun e w'=>FmPost M w s tb mb ps o z e w':=by have as4:=Tryz.asList_List;obtain⟨ao,cap,rfl,_⟩:=Sl.slOf hS;have HC:Hid _:=iA (bB w _) hC;unfold rdV at HC ⊢;clear hS hC;go_enter func67,ntmps67;go_wp2_with fail;refine Calls.mono HC.out ?_;rintro e w2 ⟨v,ev,rfl,HQ⟩;go_wp2_with fail;go_ret2;exact HQ.out.post
theorem oY(M:Nat->Prop)(w:World)(s:Sg)(tb mb:Nat)(ps:List (PV×PV))(x:Byt)(o:FR)(hR:Rdr M w s tb mb ps)(hx:x.length<=300)(hz:s.ns.length+1<=NsMax)(ho:o=fmF (if kwB x then none else some (mkF .name x .nil [] [])) ps.length) :Calls prog 67 #[rdV tb,.iface 117 (.string ⟨x.toArray⟩)] w fun e w'=>FmPost M w s tb mb ps o 1 e w':=by
 have as1:=Tryz.asName_List;have as2:=Tryz.asName_Name;have HR:Hid (Rdr M w s tb mb ps):=hR;have HO:Hid (o=fmF (if kwB x then none else some (mkF .name x .nil [] [])) ps.length):=ho;have hb:=bB w (rdO tb);have HC:=(show Hid _ from qP (fun _=>True) 1 w M (w.alloc (rdO tb)) s tb mb ps (.iface 117 (.string ⟨x.toArray⟩)) (.lit (.string x)) rfl (hR.below hb) (fun y hy=>by injection hy with hy;injection hy with hy;subst hy;exact⟨by omega,hz⟩))
 unfold rdV at HC ⊢;clear hR hx hz ho hb;go_enter func67,ntmps67;go_wp2_with fail;refine Calls.mono HC.out ?_;rintro e w2 h;obtain⟨hg,⟨y,h1,h2,rfl,h4⟩ | ⟨h1,h2,es,rfl⟩⟩:=h
 ·injection h1 with h1
  injection h1 with h1
  subst h1;have HG:Hid (w.grownBy w2 (some mb)):=aM (aI (bB w _)) hg;have HX:Hid (Rdr M w2 (s.named x) tb mb ps):=h4;have HO2:Hid (o=some (mkF .name x .nil [] [],[])):=show o=_ from by rw [HO.out,h2];simp [fmF,mkF,Pl.settle_other,Pl.settleL_nil]
  clear hg h4 h2 HC;go_wp2_with fail;go_ret2;exact⟨aM HG.out (aI (bB w2 _)),s.named x,s.named_r x,dE _ _,.inl ⟨_,_,HO2.out,rfl,by rw [List.append_nil];exact HX.out.below (bB w2 _),.name _ _ _ _ _ _ (d8 s.ns x)⟩⟩
 ·have HG:Hid (w.grownBy w2 (some mb)):=aM (aI (bB w _)) hg;have HX:Hid (Rdr M w2 s tb mb ps):=h2
  have HO2:Hid (o=none):=show o=_ from by
   rw [HO.out];have:kwB x=true:=by simpa [isName] using h1
   rw [this];rfl
  clear hg h2 h1 HC;unfold aY;go_wp2_with fail;go_ret2;exact⟨aM HG.out (aI (bB w2 _)),s,SgR.refl _,Nat.le_add_right _ _,.inr ⟨HO2.out,rfl,HX.out.below (bB w2 _),_,_,rfl⟩⟩
theorem hZ(M:Nat->Prop)(w:World)(s:Sg)(tb mb:Nat)(ps:List (PV×PV))(v:Value)(t:Tr)(n:Nat)(o:FR)(hR:Rdr M w s tb mb ps)(hv:RepP (fun k=>¬M k) (n+1) w v t)(hB:cL (n+1) t)(ht:(∃k m,t=.lit (.int k m))\/∃b,t=.lit (.bool b))(ho:o=fmF (some (mkF .const [] t [] [])) ps.length) :Calls prog 67 #[rdV tb,v] w fun e w'=>FmPost M w s tb mb ps o 1 e w':=by
 have as1:=Tryz.asNumber_Name;have as2:=Tryz.asTruth_Name;have as3:=Tryz.asNumber_List;have as4:=Tryz.asTruth_List;have HR1:Hid (Rdr M (w.alloc (rdO tb)) s tb mb ps):=hR.below (bB w (rdO tb));have hq:Pl.quoted t=t/\isQ t=false:=by rcases ht with⟨k,m,rfl⟩ | ⟨b,rfl⟩<;>exact⟨rfl,rfl⟩
 have HQ:Hid (false=isQ t):=hq.2.symm;have HO:Hid (o=some (Pl.PF.mk .const [] t (Pl.made 1000 ps.length t).1 [] [],(Pl.made 1000 ps.length t).2)):=show o=_ from by rw [ho];simp [fmF,mkF,Pl.settle_const,hq.1]
 have HC:=(show Hid _ from p_of 1000 M _ _ s ps v t HR1.out.pairs HR1.out.mlt (by
  have h1:RepP (fun k=>¬M k) 1 w v t:=by rcases ht with⟨k,m,rfl⟩ | ⟨b,rfl⟩<;>exact hv
  exact RepP.up _ _ _ _ (show 1<=1000 by omega) (h1.later (bB w (rdO tb)))) (mF (n+1) 1000 v t hv hB))
 clear hR ho hq hB;unfold rdV;rcases ht with⟨k,m,rfl⟩ | ⟨b,rfl⟩
 ·obtain⟨k',rfl,_⟩:=hv;go_enter func67,ntmps67;go_wp2_with fail;refine Calls.mono HC.out ?_;rintro e w2 ⟨v,t,rfl,k1,k2,k3,k4⟩;have HK:Hid (RV t v _):=k1;have HP:Hid (Rdr M w2 t tb mb (ps++_)):=show Rdr _ _ _ _ _ _ from⟨by obtain⟨l,rfl⟩:=k4;exact HR1.out.tab.keep (k3.block _ HR1.out.tab.lt.1) (k3.block _ HR1.out.tab.lt.2),k2,HR1.out.mmb,HR1.out.mtb,fun j hj=>Nat.lt_of_lt_of_le (HR1.out.mlt j hj) k3.size⟩;have HG:Hid (w.grownBy w2 (some mb)):=aI ((bB w _).trans (k3.mono (bB w _).size));have HT:Hid (SgR s t/\t.ns.length<=s.ns.length+1):=⟨k4.r,by obtain⟨l,rfl⟩:=k4;exact Nat.le_add_right _ _⟩
  obtain⟨T2,y2,rfl⟩:=k1.iface;clear k1 k2 k3 k4 HR1;go_wp2_with fail;go_ret2;exact⟨HG.out,t,HT.out.1,HT.out.2,.inl ⟨_,_,HO.out,rfl,HP.out,.const _ false [] _ _ [] [] HK.out HQ.out⟩⟩
 ·obtain rfl:=(show v=_ from hv)
  clear hv;go_enter func67,ntmps67;go_wp2_with fail;refine Calls.mono HC.out ?_;rintro e w2 ⟨v,t,rfl,k1,k2,k3,k4⟩;have HK:Hid (RV t v _):=k1;have HP:Hid (Rdr M w2 t tb mb (ps++_)):=show Rdr _ _ _ _ _ _ from⟨by obtain⟨l,rfl⟩:=k4;exact HR1.out.tab.keep (k3.block _ HR1.out.tab.lt.1) (k3.block _ HR1.out.tab.lt.2),k2,HR1.out.mmb,HR1.out.mtb,fun j hj=>Nat.lt_of_lt_of_le (HR1.out.mlt j hj) k3.size⟩;have HG:Hid (w.grownBy w2 (some mb)):=aI ((bB w _).trans (k3.mono (bB w _).size));have HT:Hid (SgR s t/\t.ns.length<=s.ns.length+1):=⟨k4.r,by obtain⟨l,rfl⟩:=k4;exact Nat.le_add_right _ _⟩
  obtain⟨T2,y2,rfl⟩:=k1.iface;clear k1 k2 k3 k4 HR1;go_wp2_with fail;go_ret2;exact⟨HG.out,t,HT.out.1,HT.out.2,.inl ⟨_,_,HO.out,rfl,HP.out,.const _ false [] _ _ [] [] HK.out HQ.out⟩⟩
theorem zY(n:Nat)(hF:FSaid n):LamSaid n:=by
 intro M0 w0 v a b hv0 ba bb M w s tb mb ps hst hR hz;obtain⟨sl,vs,rfl,hS,hA,_⟩:=(hv0.go hst).drow;have b1:=bB w (rdO tb);have b2:=bB (w.alloc (rdO tb)) (rdO tb);have hS1:DRow M (w.alloc (rdO tb)) sl vs:=Sl.stp (Stp.of_below b1) hS;have hA1:=AllD.below hA b1;refine jG M w s tb mb ps sl vs _ _ hS ?_
 match vs,hA.1,hS1,hA1 with
 | [u,v1,v2],_,hS1,hA1 =>
  refine fZ M _ s tb mb ps sl u [v1,v2] [.lit (.string Pl.lambdaW),a,b] _ _ hS1 (pF hS1 hA1) rfl (fun slz hzz=>?_)
  have:=qQ n hF M _ s tb mb ps slz [v1,v2] [a,b] ((hR.below b1).below b2) hzz (AllD.below (AllD.tail hA1) b2) (fun x hx=>by
   simp only [List.mem_cons,List.not_mem_nil,or_false] at hx;rcases hx with rfl | rfl
   ·exact ba
   ·exact bb) (by simpa using hz) _ rfl
  rw [show([a,b].map (tsz n)).sum=tsz n a+tsz n b from by simp] at this;exact this
theorem wP:∀n,n<=1001->FSaid n
 | 0,_=>fun _ _ _ _ h=>h.elim
 | n+1,hn=>by
  have ih:=wP n (by omega);intro M0 w0 v t hv0 hB M w s tb mb ps hst hR hz;have hv:=hv0.go hst;have b1:=bB w (rdO tb)
  match t,hv,hB,hz with
  | .lit (.int k m),hv,hB,hz=>exact hZ M w s tb mb ps v _ n _ hR hv hB (.inl ⟨_,_,rfl⟩) rfl
  | .lit (.bool b),hv,hB,hz=>exact hZ M w s tb mb ps v _ n _ hR hv hB (.inr ⟨_,rfl⟩) rfl
  | .lit (.string x),hv,hB,hz =>
   obtain rfl:=(show v=_ from hv)
   exact oY M w s tb mb ps x _ hR hB hz rfl
  | .agg ts,hv,hB,hz =>obtain⟨sl,vs,rfl,hS,hA,hl⟩:=hv.drow;exact jG M w s tb mb ps sl vs _ _ hS (p_rlist n (by omega) ih (zY n ih) M _ s tb mb ps sl vs ts (hR.below b1) (Sl.stp (Stp.of_below b1) hS) (AllD.below hA b1) hB hl hz)
theorem iQ(n:Nat)(t:Tr):(Pl.topOf n t).isSome=Pl.isTop n t:=by
 have hf:(fun x=>(formOf n x).isSome)=isForm n:=funext (Pl.formOf_some n);unfold Pl.topOf;split
 ·rename_i h r;show _=if h=Pl.defineW then Pl.asgOk (isForm n) r else isForm (n+1) _;split
  ·rw [Pl.asgF_some,hf]
  ·exact Pl.formOf_some _ _
 ·rename_i hno;rw [Pl.formOf_some];unfold Pl.isTop;split
  ·rename_i h r;exact absurd rfl (hno h r)
  ·rfl
theorem mK(n:Nat)(r:List Tr):Pl.topOf n (.agg (.lit (.string Pl.defineW)::r))=Pl.asgF .define (formOf n) r:=by simp [Pl.topOf]
theorem pG(r:List Tr):eG (.lit (.string Pl.defineW)::r)=[100,101,102,105,110,101]:=rfl
theorem rL{ts:List Tr}(h:¬eG ts=[100,101,102,105,110,101]):Pl.topOf n (.agg ts)=formOf (n+1) (.agg ts):=by
 unfold Pl.topOf;split
 ·rename_i h' r heq;rw [DataW.agg.injEq] at heq;subst heq;rw [if_neg];rintro rfl;exact h (pG r)
 ·rfl
theorem rM{t:Tr}(h:¬∃ts,t=.agg ts):Pl.topOf n t=formOf (n+1) t:=by
 unfold Pl.topOf;split
 ·exact absurd ⟨_,rfl⟩ h
 ·rfl
theorem kwOf_is{ts:List Tr}(h:eG ts=[100,101,102,105,110,101]):∃r,ts=.lit (.string Pl.defineW)::r:=by
 unfold eG at h
 cases hk:Pl.headKw ts with
 | none=>rw [hk] at h;simp at h
 | some k =>
  rw [hk] at h;dsimp only at h;subst h;unfold Pl.headKw at hk;split at hk
  ·split at hk
   ·obtain rfl:=Option.some.inj hk;exact⟨_,rfl⟩
   ·simp at hk
  ·simp at hk
def RdQ(M:Nat->Prop)(w:World)(s:Sg)(tb mb:Nat)(ps:List (PV×PV))(bs:Byt)(v ev:Value)(w':World):Prop :=
 w.grownBy w' (some mb)/\∃t,SgR s t/\t.ns.length<=s.ns.length+300 /\
  ((∃c es,Pl.check bs=c/\0<c/\c<=5/\ev=aY es c/\t.pb=s.pb/\Rdr M w' t tb mb ps) \/
   (∃f,Pl.check bs=0/\Pl.readF bs=some f/\ev=.nilIface/\Rdr M w' t tb mb (ps++(Pl.settle f ps.length).2)/\RFm M w' t v (Pl.settle f ps.length).1))
theorem RdQ.of_fm{s:Sg}{tb mb:Nat}{ps:List (PV×PV)}{bs:Byt}{m z:Nat}{t:Tr}{o:FR}{v ev:Value}{w':World}(h:FmQ M w s tb mb ps o z v ev w')(ho:o=fmF (Pl.topOf m t) ps.length)(hz:z<=300)(hch:Pl.check bs=if Pl.isTop m t=true then 0 else 5)(hrd:Pl.readF bs=Pl.topOf m t):RdQ M w s tb mb ps bs v ev w':=by
 obtain⟨h1,u,h2,h3,⟨r,h4,rfl,h5,h6⟩ | ⟨h4,h5,h6,es,rfl⟩⟩:=h
 ·refine⟨h1,u,h2,by omega,.inr ?_⟩;rw [ho] at h4;unfold fmF at h4;obtain⟨f,hf,rfl⟩:=Option.map_eq_some_iff.1 h4;refine⟨f,?_,hrd.trans hf,rfl,h5,h6⟩;rw [hch,<-iQ,hf];rfl
 ·refine⟨h1,u,h2,by omega,.inl ⟨5,es,?_,by omega,by omega,rfl,h5,h6⟩⟩;rw [ho] at h4;unfold fmF at h4;rw [hch,<-iQ,Option.map_eq_none_iff.1 h4];rfl
theorem xY{bs:Byt}{l:List (List UInt8)}{p:Pl.PR}(h:bF bs=some l)(hp:Pl.pd l.length l=some p):Pl.readF bs=Pl.topOf (l.length-1) p.t:=by unfold Pl.readF;rw [(dR h).1];dsimp only;rw [hp]
theorem pU{bs:List UInt8}(h:Pl.check bs≠1):bs.length<=300:=by
 by_cases hl:300<bs.length
 ·exact absurd (kX hl) h
 ·omega
theorem p_sread(b:ByteArray)(M:Nat->Prop)(w:World)(s:Sg)(tb mb:Nat)(ps:List (PV×PV))(hR:Rdr M w s tb mb ps)(hge:GE w)(hz:s.ns.length+300<=NsMax) :Calls prog 40 #[.string b,.pointer (some ⟨tb,0,none⟩)] w fun e w'=>∃v ev,e=.returned (.tuple #[v,ev])/\RdQ M w s tb mb ps b.data.toList v ev w':=by
 have as1:=Tryz.asNumber_List;have as2:=Tryz.asTruth_List;have as3:=Tryz.asName_List;have as4:=Tryz.asList_List;have HR:Hid (Rdr M w s tb mb ps):=hR;have HZ:Hid (s.ns.length+300<=NsMax):=hz;clear hR hz;go_enter func40,ntmps40;go_wp2_with fail;refine(p_dread b w hge).mono ?_;rintro e w1 ⟨hB1,hcase⟩;have HB1:Hid (Below _ _ _):=hB1;clear hB1 hge;rcases hcase with⟨c,es,hc,hc0,hc5,rfl⟩ | ⟨l,p,v,hs,hl,hp,hgr,hch,rfl,hrep⟩
 ·have HC:Hid _:=hc;clear hc;unfold aY;go_wp2_with fail;go_ret2;exact⟨_,_,rfl,aI HB1.out,s,SgR.refl _,Nat.le_add_right _ _,.inl ⟨c,_,HC.out,hc0,hc5,rfl,rfl,HR.out.below HB1.out⟩⟩
 ·have hrf:=xY hs hp;have hok:=Pl.pd_ok _ _ _ hp
  have hbl:∀t∈l,t.length<=300:=fun t ht=>by
   have h1:Pl.check b.data.toList≠1:=by rw [hch];split<;>simp
   have h2:=pU h1;have h3:=(Pl.toks_size (dR hs).1).2 t ht;omega
  have hbig:=hok.big hgr hbl;have hwds:=hok.words;obtain⟨n,hn⟩:=uJ hp;rw [hn] at hrep hbig hwds;rw [hn,Nat.add_sub_cancel] at hch hrf;have hn300:n+1<=300:=by omega
  have hrep1:RepP (fun k=>¬M k) (n+1) w1 v p.t:=RepP.mono (fun k _ hk hm=>by have:=HR.out.mlt k hm;omega) _ _ _ hrep;have HCh:Hid (Pl.check b.data.toList=(if Pl.isTop n p.t=true then 0 else 5)/\Pl.readF b.data.toList=Pl.topOf n p.t):=⟨hch,hrf⟩
  have HB2:Hid (Below w.heap.size w (w1.alloc (rdO tb))):=HB1.out.alloc HB1.out.size _;have hB3:Below w1.heap.size w1 (w1.alloc (rdO tb)):=bB _ _;have hR2:Rdr M (w1.alloc (rdO tb)) s tb mb ps:=HR.out.below HB2.out;have hz2:s.ns.length+tsz (n+1) p.t<=NsMax:=by have:=HZ.out;omega
  have hz3:tsz (n+1) p.t<=300:=by omega
  have hform:(Pl.topOf n p.t=formOf (n+1) p.t)->Hid (Calls prog 67 #[.agg #[.pointer (some ⟨tb,0,none⟩)],v] (w1.alloc (rdO tb)) fun e w'=>∃v ev,e=.returned (.tuple #[v,ev])/\Hid (RdQ M w s tb mb ps b.data.toList v ev w')):=fun ht=>show Calls _ _ _ _ _ from
   (wP (n+1) (by omega) M w1 v p.t hrep1 hbig M (w1.alloc (rdO tb)) s tb mb ps (Stp.of_below hB3) hR2 hz2).mono (fun e w' h=>by
    obtain⟨v,ev,h1,h2⟩:=h.one
    exact⟨v,ev,h1,RdQ.of_fm (h2.from_ HB2.out) (by rw [ht]) hz3 HCh.out.1 HCh.out.2⟩)
  have cw:(w1.alloc (rdO tb)).cell? ⟨w1.heap.size,0,none⟩=some (.pointer (some ⟨tb,0,none⟩)):=aA (heap_alloc_new w1 (rdO tb)) 0;clear hch hrf hp hs hn hl hok hbl hrep hwds hgr;by_cases hls:∃ts,p.t=.agg ts
  ·obtain⟨ts,hts⟩:=hls;rw [hts] at hrep1 hform hbig hz2 hz3;obtain⟨sl,vs,rfl,hS,hA,hlen⟩:=hrep1.drow;have hkw:=pF (tb:=tb) hS hA;by_cases hk:eG ts=[100,101,102,105,110,101]
   ·obtain⟨r,rfl⟩:=kwOf_is hk
    match vs,hA.1 with
    | u::us,_ =>
     rw [hk] at hkw;obtain⟨g,off,cap,rfl,hcap,hg,c0,_⟩:=(Sl.slOf hS).cell0;have HK:=(show Hid (∀L c,L=us.length+1->c=cap->Calls prog 65 #[.slice (some ⟨g,off,none⟩) L c] (w1.alloc (rdO tb)) fun e w'=>e=.returned (.string ⟨([100,101,102,105,110,101]:List UInt8).toArray⟩)/\w1.alloc (rdO tb)=w') from by rintro _ _ rfl rfl;exact hkw)
     have hS2:DRow M (w1.alloc (rdO tb)).drew (.slice (some ⟨g,off,none⟩) (us.length+1) cap) (u::us):=Sl.stp (Stp.of_below (hB3.drew)) hS;have hsum:(r.map (tsz n)).sum<=tsz (n+1) (.agg (.lit (.string Pl.defineW)::r)):=by show _<=((.lit (.string Pl.defineW)::r).map (tsz n)).sum;simp
     have HD:Hid (∀(ao:Option Addr)(L c:Nat),L=us.length->us.length<=c->(us.length≠0->ao=some ⟨g,off+1,none⟩)->Calls prog 66 #[.agg #[.pointer (some ⟨tb,0,none⟩)],.slice ao L c] (w1.alloc (rdO tb)).drew fun e w'=>∃v ev,e=.returned (.tuple #[v,ev])/\Hid (RdQ M w s tb mb ps b.data.toList v ev w')):=fun ao L c h0 h1 h2=>by
      subst h0
      exact(yW n (wP n (by omega)) M _ s tb mb ps _ us r (hR2.below (Below.refl _ _).drew) (Sl.tail1 hS2 us.length rfl ao c h1 h2) (AllD.below (AllD.tail hA) hB3.drew) (fun x hx=>hbig x (List.mem_cons_of_mem _ hx)) (by omega) _ rfl).mono (fun e w' h=>by
       obtain⟨v,ev,h1,h2⟩:=h.one;refine⟨v,ev,h1,RdQ.of_fm (h2.from_ HB2.out.drew) ?_ (Nat.le_trans hsum hz3) HCh.out.1 HCh.out.2⟩
       rw [hts,mK])
     clear hkw hk hA hS hrep1 hform hts hS2 hR2 hB3 hbig;obtain⟨c,rfl⟩:∃c,cap=c+1:=⟨cap-1,by omega⟩
     rcases c with _ | c
     all_goals clear HCh as1 as2 as3 HR HZ HB1 HB2
     all_goals
     go_wp2_with (go_at_call 65;refine(HK.out _ _ (by omega) (by omega)).mono ?_;rintro e w' ⟨rfl,rfl⟩)
     go_region_with (go_at_call 66;refine(HD.out _ _ _ (by omega) (by omega) (by intro hh;first | rfl | (exfalso;omega))).mono ?_;rintro e w2 ⟨v,ev,rfl,HQ⟩)
     all_goals
      go_wp2_with fail
      go_ret2;exact⟨_,_,rfl,HQ.out⟩
   ·have HF:=hform (rL hk);have hk1:(eG ts==[100,101,102,105,110,101])=false:=by simpa using hk
    obtain⟨ao,cap,rfl,_⟩:=Sl.slOf hS;have HK:Hid _:=hkw;generalize eG ts=kk at *;clear hkw hk hA hS hrep1 hform hts hR2 hB3 hbig;go_wp2_with (go_at_call 65;refine(Calls.mono HK.out) ?_;rintro e w' ⟨rfl,rfl⟩);refine Calls.mono HF.out ?_;rintro e w3 ⟨v9,ev9,rfl,HQ⟩;go_wp2_with fail;go_ret2;exact⟨_,_,rfl,HQ.out⟩
  ·have HF:=hform (rM hls);obtain⟨y,hy⟩:=RepP.no_list hrep1 hls;clear hrep1 hls hform hR2 hB3 hbig;rcases hy with rfl | rfl | rfl
   ·go_wp2_with fail
    refine Calls.mono HF.out ?_;rintro e w3 ⟨v9,ev9,rfl,HQ⟩;go_wp2_with fail;go_ret2;exact⟨_,_,rfl,HQ.out⟩
   ·go_wp2_with fail
    refine Calls.mono HF.out ?_;rintro e w3 ⟨v9,ev9,rfl,HQ⟩;go_wp2_with fail;go_ret2;exact⟨_,_,rfl,HQ.out⟩
   ·go_wp2_with fail
    refine Calls.mono HF.out ?_;rintro e w3 ⟨v9,ev9,rfl,HQ⟩;go_wp2_with fail;go_ret2;exact⟨_,_,rfl,HQ.out⟩
end
section
open Go.RowKit Go.Extern.Stop Go.Stop Go.Extern
theorem Tryz.valueOfP(t:Addr)(w:World):(ReflectliteValue.unpack (.iface 130 (.pointer (some t)))).run prog w
  = .ok (.agg #[.pointer (some ⟨8,130,none⟩),.pointer (some ⟨w.heap.size,0,none⟩),.int .u64 150]) (w.alloc (.cells #[.pointer (some t)] 130)):=by kernel_rfl
theorem Tryz.typeP(a:Addr)(w:World):(ReflectliteValue.methodAny (ReflectliteValue.valueError "reflectlite.Value.Type" 0) (fun t _ _ _=>ReflectliteType.toType t) #[.agg #[.pointer (some ⟨8,130,none⟩),.pointer (some a),.int .u64 150]]).run prog w
  = .ok (.iface 301 (.agg #[.pointer (some ⟨8,130,none⟩)])) w:=by kernel_rfl
theorem Tryz.methodKind(h:Value)(w:World):(Go.method 638 301 (.agg #[h]) "Kind").run prog w=.ok (253,h) w:=by kernel_rfl
theorem Tryz.kindP(w:World):((ReflectliteType.abiMethod fun t=>(fun a:Nat=>Value.int IntKind.u8 (a:Int)) <$> Rtype.kind t) #[.pointer (some ⟨8,130,none⟩)]).run prog w=.ok (.int .u8 22) w:=by kernel_rfl
theorem Tryz.kindF(w:World):((ReflectliteType.abiMethod fun t=>(fun a:Nat=>Value.int IntKind.u8 (a:Int)) <$> Rtype.kind t) #[.pointer (some ⟨8,128,none⟩)]).run prog w=.ok (.int .u8 2) w:=by kernel_rfl
theorem Tryz.isNilP0(a:Addr)(W:World) :(ReflectliteValue.method (ReflectliteValue.valueError "reflectlite.Value.IsNil" 0) ReflectliteValue.isNil #[.agg #[.pointer (some ⟨8,130,none⟩),.pointer (some a),.int .u64 150]]).run prog W=(ReflectliteValue.isNil 130 a 150 22).run prog W:=by kernel_rfl
theorem Tryz.isNilP(a p:Addr)(W:World)(ha:W.cell? a=some (.pointer (some p))) :(ReflectliteValue.method (ReflectliteValue.valueError "reflectlite.Value.IsNil" 0) ReflectliteValue.isNil #[.agg #[.pointer (some ⟨8,130,none⟩),.pointer (some a),.int .u64 150]]).run prog W=.ok (.bool false) W:=by rw [Tryz.isNilP0];simp [ReflectliteValue.isNil,loadVar,isAgg,underlying,underlying130,ha,Result.andThen]
theorem Tryz.methodElem(h:Value)(w:World):(Go.method 638 301 (.agg #[h]) "Elem").run prog w=.ok (367,.agg #[h]) w:=by kernel_rfl
theorem Tryz.methodImplements(h:Value)(w:World):(Go.method 638 301 (.agg #[h]) "Implements").run prog w=.ok (368,.agg #[h]) w:=by kernel_rfl
theorem Tryz.methodAssignableTo(h:Value)(w:World):(Go.method 638 301 (.agg #[h]) "AssignableTo").run prog w=.ok (365,.agg #[h]) w:=by kernel_rfl
theorem Tryz.methodUnwrap(a b:Value)(w:World):(Go.method 638 251 (.agg #[a,b]) "Unwrap").run prog w=.ok (352,.agg #[a,b]) w:=by kernel_rfl
theorem Tryz.elemP(w:World):(ReflectliteType.method ReflectliteType.elem #[.agg #[.pointer (some ⟨8,130,none⟩)]]).run prog w=.ok (.iface 301 (.agg #[.pointer (some ⟨8,128,none⟩)])) w:=by kernel_rfl
theorem Tryz.implementsF(w:World):(ReflectliteType.relation "Implements" ReflectliteType.implements_ #[.agg #[.pointer (some ⟨8,128,none⟩)],.iface 301 (.agg #[.pointer (some ⟨8,63,none⟩)])]).run prog w=.ok (.bool true) w:=by kernel_rfl
theorem Tryz.typeOfF(v:Value)(w:World):(ReflectliteType.typeOf #[.iface 128 v]).run prog w=.ok (.iface 301 (.agg #[.pointer (some ⟨8,128,none⟩)])) w:=by kernel_rfl
theorem Tryz.typeOfD(v:Value)(w:World):(ReflectliteType.typeOf #[.iface 251 v]).run prog w=.ok (.iface 301 (.agg #[.pointer (some ⟨8,251,none⟩)])) w:=by kernel_rfl
theorem Tryz.assignableF(w:World):(ReflectliteType.relation "AssignableTo" ReflectliteType.assignableTo #[.agg #[.pointer (some ⟨8,128,none⟩)],.iface 301 (.agg #[.pointer (some ⟨8,128,none⟩)])]).run prog w=.ok (.bool true) w:=by kernel_rfl
theorem Tryz.assignableD(w:World):(ReflectliteType.relation "AssignableTo" ReflectliteType.assignableTo #[.agg #[.pointer (some ⟨8,251,none⟩)],.iface 301 (.agg #[.pointer (some ⟨8,128,none⟩)])]).run prog w=.ok (.bool false) w:=by kernel_rfl
theorem Tryz.valueOfF(n:Int)(w:World):(ReflectliteValue.unpack (.iface 128 (.int .i64 n))).run prog w
  = .ok (.agg #[.pointer (some ⟨8,128,none⟩),.pointer (some ⟨w.heap.size,0,none⟩),.int .u64 130]) (w.alloc (.cells #[.int .i64 n] 128)):=by kernel_rfl
theorem Tryz.elemOfP(w:World):(Rtype.elem? 130).run prog w=.ok (some 128) w:=by kernel_rfl
theorem Tryz.mkF(p:Addr)(w:World):(ReflectliteValue.mk 128 p ReflectliteValue.flagAddr).run prog w=.ok (.agg #[.pointer (some ⟨8,128,none⟩),.pointer (some p),.int .u64 386]) w:=by kernel_rfl
theorem Tryz.elemVP0(a:Addr)(W:World) :(ReflectliteValue.method (ReflectliteValue.valueError "reflectlite.Value.Elem" 0) ReflectliteValue.elem #[.agg #[.pointer (some ⟨8,130,none⟩),.pointer (some a),.int .u64 150]]).run prog W=(ReflectliteValue.elem 130 a 150 22).run prog W:=by kernel_rfl
theorem Tryz.elemVP(a p:Addr)(W:World)(ha:W.cell? a=some (.pointer (some p))) :(ReflectliteValue.method (ReflectliteValue.valueError "reflectlite.Value.Elem" 0) ReflectliteValue.elem #[.agg #[.pointer (some ⟨8,130,none⟩),.pointer (some a),.int .u64 150]]).run prog W
   = .ok (.agg #[.pointer (some ⟨8,128,none⟩),.pointer (some p),.int .u64 386]) W:=by
 rw [Tryz.elemVP0];simp [ReflectliteValue.elem,loadVar,isAgg,underlying,underlying130,ha,Result.andThen,Tryz.elemOfP,Tryz.mkF]
theorem Tryz.setF0(ta b:Addr)(W:World) :(ReflectliteValue.set #[.agg #[.pointer (some ⟨8,128,none⟩),.pointer (some ta),.int .u64 386],.agg #[.pointer (some ⟨8,128,none⟩),.pointer (some b),.int .u64 130]]).run prog W
   = (loadVar 128 b >>= fun val=>storeVar 128 ta val >>= fun _=>pure (.tuple #[])).run prog W:=by kernel_rfl
theorem Tryz.setF(ta b:Addr)(n:Int)(old:Value)(W:World)(hb:W.cell? b=some (.int .i64 n))(ht:W.cell? ta=some old)(hf:W.frozen? ta=false) :(ReflectliteValue.set #[.agg #[.pointer (some ⟨8,128,none⟩),.pointer (some ta),.int .u64 386],.agg #[.pointer (some ⟨8,128,none⟩),.pointer (some b),.int .u64 130]]).run prog W
   = .ok (.tuple #[]) (W.setCell ta (.int .i64 n)):=by
 rw [Tryz.setF0];simp [loadVar,isAgg,underlying,underlying128,hb,Result.andThen,storeVar,Value.cells,storeCells,Addr.add];rw [run_store prog W ta _ _ (by rfl)];simp [ht,hf]
theorem Tryz.asD_As(v:Value)(w:World):(Instr.typeAssert (.iface 251 v) 63 306 true).run prog w=.ok (.tuple #[.nilIface,.bool false]) w:=run_typeAssert_lacksB underlying306 (by kernel_rfl) (by kernel_rfl) v _ w
theorem Tryz.asD_Unwrap(v:Value)(w:World):(Instr.typeAssert (.iface 251 v) 63 309 true).run prog w=.ok (.tuple #[.iface 251 v,.bool true]) w:=run_typeAssert_hasB underlying309 (by kernel_rfl) v _ w
end
end Go.Proofs.YtkgbdddkcjpgfaaGreatDoor
