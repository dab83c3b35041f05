import Derived.Test.YtkgbdddkcjpgfaaGreatDoorC16
namespace Go.Proofs.YtkgbdddkcjpgfaaGreatDoor
set_option maxHeartbeats 1000000
set_option maxRecDepth 100000
open Go.Proofs.Tryz
open Pl (PV FR)
section
open Go.RowKit
variable {M:Nat->Prop} {w w':World} {tb mb z:Nat}
theorem FmPost.from_{wz:World}{s:Sg}{ps:List (PV×PV)}{o:FR}{e:Ending}(h:FmPost M wz s tb mb ps o z e w')(hb:Below w.heap.size w wz):FmPost M w s tb mb ps o z e w':=⟨aM (aI hb) h.1,h.2⟩
theorem FmPost.more{s:Sg}{ps:List (PV×PV)}{o:FR}{z':Nat}{e:Ending}(hz:z<=z')(h:FmPost M w s tb mb ps o z e w'):FmPost M w s tb mb ps o z' e w':=by obtain⟨h1,t,h2,h3,h4⟩:=h;exact⟨h1,t,h2,by omega,h4⟩
theorem FmQ.post{s:Sg}{ps:List (PV×PV)}{o:FR}{v ev:Value}(h:FmQ M w s tb mb ps o z v ev w'):FmPost M w s tb mb ps o z (.returned (.tuple #[v,ev])) w':=by
 obtain⟨h1,t,h2,h3,⟨r,h4,rfl,h5⟩ | ⟨h4,h5,h6,es,rfl⟩⟩:=h
 ·exact⟨h1,t,h2,h3,.inl ⟨r,v,h4,rfl,h5⟩⟩
 ·exact⟨h1,t,h2,h3,.inr ⟨h4,h5,h6,v,es,rfl⟩⟩
theorem iA{wz:World}{s:Sg}{ps:List (PV×PV)}{o:FR}{f:FuncId}{xs:Array Value}(hb:Below w.heap.size w wz)(h:Calls prog f xs wz fun e w'=>FmPost M wz s tb mb ps o z e w'):Calls prog f xs wz fun e w'=>∃v ev,e=.returned (.tuple #[v,ev])/\Hid (FmQ M w s tb mb ps o z v ev w') :=
 h.mono (fun e w' h=>by
  obtain⟨v,ev,h1,h2⟩:=h.one
  exact⟨v,ev,h1,h2.from_ hb⟩)
theorem nE(M:Nat->Prop)(w:World)(s:Sg)(tb mb:Nat)(ps:List (PV×PV))(sl u:Value)(us:List Value)(ts:List Tr)(o:FR)(z:Nat)(hS:DRow M w sl (u::us))(hk:Calls prog 65 #[sl] (w.alloc (rdO tb)) fun e w'=>e=.returned (.string ⟨(eG ts).toArray⟩)/\w.alloc (rdO tb)=w')(hw:eG ts=[113,117,111,116,101])
  (hC:∀slz,DRow M (w.alloc (rdO tb)) slz us->Calls prog 150 #[rdV tb,slz] (w.alloc (rdO tb)) fun e w'=>FmPost M (w.alloc (rdO tb)) s tb mb ps o z e w') :
  Calls prog 112 #[rdV tb,sl] w fun e w'=>FmPost M w s tb mb ps o z e w':=by
 have hS1:DRow M (w.alloc (rdO tb)) sl (u::us):=Sl.stp (Stp.of_below (bB w (rdO tb))) hS;rw [hw] at hk;obtain⟨g,off,cap,rfl,hcap,hg,c0,_⟩:=(Sl.slOf hS).cell0;have HK:=(show Hid (∀L c,L=us.length+1->c=cap->Calls prog 65 #[.slice (some ⟨g,off,none⟩) L c] (w.alloc (rdO tb)) fun e w'=>e=.returned (.string ⟨([113,117,111,116,101]:List UInt8).toArray⟩)/\w.alloc (rdO tb)=w') from by rintro _ _ rfl rfl;exact hk)
 have HC:Hid (∀(ao:Option Addr)(c:Nat),us.length<=c->(us.length≠0->ao=some ⟨g,off+1,none⟩)->Calls prog 150 #[.agg #[.pointer (some ⟨tb,0,none⟩)],.slice ao us.length c] (w.alloc (rdO tb)) fun e w'=>∃v ev,e=.returned (.tuple #[v,ev])/\Hid (FmQ M w s tb mb ps o z v ev w')):=fun ao c h1 h2=>iA (bB w _) (hC _ (Sl.tail1 hS1 us.length rfl ao c h1 h2));have hz:((us.length:Int)+1==0)=false:=by simp;omega
 have cw:(w.alloc (rdO tb)).cell? ⟨w.heap.size,0,none⟩=some (.pointer (some ⟨tb,0,none⟩)):=aA (heap_alloc_new w (rdO tb)) 0;unfold rdV;clear hS hS1 hk hw hC;go_enter func112,ntmps112;go_wp2_with (go_at_call 65;refine(HK.out _ _ (by omega) (by omega)).mono ?_;rintro e w' ⟨rfl,rfl⟩)
 ·refine(HC.out _ _ (by omega) (by intro hh;first | rfl | (exfalso;omega))).mono ?_;rintro e w2 ⟨v,ev,rfl,HQ⟩;go_wp2_with fail;go_ret2;exact HQ.out.post
 ·refine(HC.out _ _ (by omega) (by intro hh;first | rfl | (exfalso;omega))).mono ?_;rintro e w2 ⟨v,ev,rfl,HQ⟩;go_wp2_with fail;go_ret2;exact HQ.out.post
theorem lT(M:Nat->Prop)(w:World)(s:Sg)(tb mb:Nat)(ps:List (PV×PV))(sl u:Value)(us:List Value)(ts:List Tr)(o:FR)(z:Nat)(hS:DRow M w sl (u::us))(hk:Calls prog 65 #[sl] (w.alloc (rdO tb)) fun e w'=>e=.returned (.string ⟨(eG ts).toArray⟩)/\w.alloc (rdO tb)=w')(hw:eG ts=[105,102])
  (hC:∀slz,DRow M (w.alloc (rdO tb)) slz us->Calls prog 151 #[rdV tb,slz] (w.alloc (rdO tb)) fun e w'=>FmPost M (w.alloc (rdO tb)) s tb mb ps o z e w') :
  Calls prog 112 #[rdV tb,sl] w fun e w'=>FmPost M w s tb mb ps o z e w':=by
 have hS1:DRow M (w.alloc (rdO tb)) sl (u::us):=Sl.stp (Stp.of_below (bB w (rdO tb))) hS;rw [hw] at hk;obtain⟨g,off,cap,rfl,hcap,hg,c0,_⟩:=(Sl.slOf hS).cell0;have HK:=(show Hid (∀L c,L=us.length+1->c=cap->Calls prog 65 #[.slice (some ⟨g,off,none⟩) L c] (w.alloc (rdO tb)) fun e w'=>e=.returned (.string ⟨([105,102]:List UInt8).toArray⟩)/\w.alloc (rdO tb)=w') from by rintro _ _ rfl rfl;exact hk)
 have HC:Hid (∀(ao:Option Addr)(c:Nat),us.length<=c->(us.length≠0->ao=some ⟨g,off+1,none⟩)->Calls prog 151 #[.agg #[.pointer (some ⟨tb,0,none⟩)],.slice ao us.length c] (w.alloc (rdO tb)) fun e w'=>∃v ev,e=.returned (.tuple #[v,ev])/\Hid (FmQ M w s tb mb ps o z v ev w')):=fun ao c h1 h2=>iA (bB w _) (hC _ (Sl.tail1 hS1 us.length rfl ao c h1 h2));have hz:((us.length:Int)+1==0)=false:=by simp;omega
 have cw:(w.alloc (rdO tb)).cell? ⟨w.heap.size,0,none⟩=some (.pointer (some ⟨tb,0,none⟩)):=aA (heap_alloc_new w (rdO tb)) 0;unfold rdV;clear hS hS1 hk hw hC;go_enter func112,ntmps112;go_wp2_with (go_at_call 65;refine(HK.out _ _ (by omega) (by omega)).mono ?_;rintro e w' ⟨rfl,rfl⟩)
 ·refine(HC.out _ _ (by omega) (by intro hh;first | rfl | (exfalso;omega))).mono ?_;rintro e w2 ⟨v,ev,rfl,HQ⟩;go_wp2_with fail;go_ret2;exact HQ.out.post
 ·refine(HC.out _ _ (by omega) (by intro hh;first | rfl | (exfalso;omega))).mono ?_;rintro e w2 ⟨v,ev,rfl,HQ⟩;go_wp2_with fail;go_ret2;exact HQ.out.post
theorem nF(M:Nat->Prop)(w:World)(s:Sg)(tb mb:Nat)(ps:List (PV×PV))(sl u:Value)(us:List Value)(ts:List Tr)(o:FR)(z:Nat)(hS:DRow M w sl (u::us))(hk:Calls prog 65 #[sl] (w.alloc (rdO tb)) fun e w'=>e=.returned (.string ⟨(eG ts).toArray⟩)/\w.alloc (rdO tb)=w')(hw:eG ts=[98,101,103,105,110])
  (hC:∀slz,DRow M (w.alloc (rdO tb)) slz us->Calls prog 152 #[rdV tb,slz] (w.alloc (rdO tb)) fun e w'=>FmPost M (w.alloc (rdO tb)) s tb mb ps o z e w') :
  Calls prog 112 #[rdV tb,sl] w fun e w'=>FmPost M w s tb mb ps o z e w':=by
 have hS1:DRow M (w.alloc (rdO tb)) sl (u::us):=Sl.stp (Stp.of_below (bB w (rdO tb))) hS;rw [hw] at hk;obtain⟨g,off,cap,rfl,hcap,hg,c0,_⟩:=(Sl.slOf hS).cell0;have HK:=(show Hid (∀L c,L=us.length+1->c=cap->Calls prog 65 #[.slice (some ⟨g,off,none⟩) L c] (w.alloc (rdO tb)) fun e w'=>e=.returned (.string ⟨([98,101,103,105,110]:List UInt8).toArray⟩)/\w.alloc (rdO tb)=w') from by rintro _ _ rfl rfl;exact hk)
 have HC:Hid (∀(ao:Option Addr)(c:Nat),us.length<=c->(us.length≠0->ao=some ⟨g,off+1,none⟩)->Calls prog 152 #[.agg #[.pointer (some ⟨tb,0,none⟩)],.slice ao us.length c] (w.alloc (rdO tb)) fun e w'=>∃v ev,e=.returned (.tuple #[v,ev])/\Hid (FmQ M w s tb mb ps o z v ev w')):=fun ao c h1 h2=>iA (bB w _) (hC _ (Sl.tail1 hS1 us.length rfl ao c h1 h2));have hz:((us.length:Int)+1==0)=false:=by simp;omega
 have cw:(w.alloc (rdO tb)).cell? ⟨w.heap.size,0,none⟩=some (.pointer (some ⟨tb,0,none⟩)):=aA (heap_alloc_new w (rdO tb)) 0;unfold rdV;clear hS hS1 hk hw hC;go_enter func112,ntmps112;go_wp2_with (go_at_call 65;refine(HK.out _ _ (by omega) (by omega)).mono ?_;rintro e w' ⟨rfl,rfl⟩)
 ·refine(HC.out _ _ (by omega) (by intro hh;first | rfl | (exfalso;omega))).mono ?_;rintro e w2 ⟨v,ev,rfl,HQ⟩;go_wp2_with fail;go_ret2;exact HQ.out.post
 ·refine(HC.out _ _ (by omega) (by intro hh;first | rfl | (exfalso;omega))).mono ?_;rintro e w2 ⟨v,ev,rfl,HQ⟩;go_wp2_with fail;go_ret2;exact HQ.out.post
theorem sF(M:Nat->Prop)(w:World)(s:Sg)(tb mb:Nat)(ps:List (PV×PV))(sl u:Value)(us:List Value)(ts:List Tr)(o:FR)(z:Nat)(hS:DRow M w sl (u::us))(hk:Calls prog 65 #[sl] (w.alloc (rdO tb)) fun e w'=>e=.returned (.string ⟨(eG ts).toArray⟩)/\w.alloc (rdO tb)=w')(hw:eG ts=[115,101,116,33])
  (hC:∀slz,DRow M (w.alloc (rdO tb)) slz us->Calls prog 153 #[rdV tb,slz] (w.alloc (rdO tb)) fun e w'=>FmPost M (w.alloc (rdO tb)) s tb mb ps o z e w') :
  Calls prog 112 #[rdV tb,sl] w fun e w'=>FmPost M w s tb mb ps o z e w':=by
 have hS1:DRow M (w.alloc (rdO tb)) sl (u::us):=Sl.stp (Stp.of_below (bB w (rdO tb))) hS;rw [hw] at hk;obtain⟨g,off,cap,rfl,hcap,hg,c0,_⟩:=(Sl.slOf hS).cell0;have HK:=(show Hid (∀L c,L=us.length+1->c=cap->Calls prog 65 #[.slice (some ⟨g,off,none⟩) L c] (w.alloc (rdO tb)) fun e w'=>e=.returned (.string ⟨([115,101,116,33]:List UInt8).toArray⟩)/\w.alloc (rdO tb)=w') from by rintro _ _ rfl rfl;exact hk)
 have HC:Hid (∀(ao:Option Addr)(c:Nat),us.length<=c->(us.length≠0->ao=some ⟨g,off+1,none⟩)->Calls prog 153 #[.agg #[.pointer (some ⟨tb,0,none⟩)],.slice ao us.length c] (w.alloc (rdO tb)) fun e w'=>∃v ev,e=.returned (.tuple #[v,ev])/\Hid (FmQ M w s tb mb ps o z v ev w')):=fun ao c h1 h2=>iA (bB w _) (hC _ (Sl.tail1 hS1 us.length rfl ao c h1 h2));have hz:((us.length:Int)+1==0)=false:=by simp;omega
 have cw:(w.alloc (rdO tb)).cell? ⟨w.heap.size,0,none⟩=some (.pointer (some ⟨tb,0,none⟩)):=aA (heap_alloc_new w (rdO tb)) 0;unfold rdV;clear hS hS1 hk hw hC;go_enter func112,ntmps112;go_wp2_with (go_at_call 65;refine(HK.out _ _ (by omega) (by omega)).mono ?_;rintro e w' ⟨rfl,rfl⟩)
 ·refine(HC.out _ _ (by omega) (by intro hh;first | rfl | (exfalso;omega))).mono ?_;rintro e w2 ⟨v,ev,rfl,HQ⟩;go_wp2_with fail;go_ret2;exact HQ.out.post
 ·refine(HC.out _ _ (by omega) (by intro hh;first | rfl | (exfalso;omega))).mono ?_;rintro e w2 ⟨v,ev,rfl,HQ⟩;go_wp2_with fail;go_ret2;exact HQ.out.post
theorem fZ(M:Nat->Prop)(w:World)(s:Sg)(tb mb:Nat)(ps:List (PV×PV))(sl u:Value)(us:List Value)(ts:List Tr)(o:FR)(z:Nat)(hS:DRow M w sl (u::us))(hk:Calls prog 65 #[sl] (w.alloc (rdO tb)) fun e w'=>e=.returned (.string ⟨(eG ts).toArray⟩)/\w.alloc (rdO tb)=w')(hw:eG ts=[108,97,109,98,100,97])
  (hC:∀slz,DRow M (w.alloc (rdO tb)) slz us->Calls prog 154 #[rdV tb,slz] (w.alloc (rdO tb)) fun e w'=>FmPost M (w.alloc (rdO tb)) s tb mb ps o z e w') :
  Calls prog 112 #[rdV tb,sl] w fun e w'=>FmPost M w s tb mb ps o z e w':=by
 have hS1:DRow M (w.alloc (rdO tb)) sl (u::us):=Sl.stp (Stp.of_below (bB w (rdO tb))) hS;rw [hw] at hk;obtain⟨g,off,cap,rfl,hcap,hg,c0,_⟩:=(Sl.slOf hS).cell0;have HK:=(show Hid (∀L c,L=us.length+1->c=cap->Calls prog 65 #[.slice (some ⟨g,off,none⟩) L c] (w.alloc (rdO tb)) fun e w'=>e=.returned (.string ⟨([108,97,109,98,100,97]:List UInt8).toArray⟩)/\w.alloc (rdO tb)=w') from by rintro _ _ rfl rfl;exact hk)
 have HC:Hid (∀(ao:Option Addr)(c:Nat),us.length<=c->(us.length≠0->ao=some ⟨g,off+1,none⟩)->Calls prog 154 #[.agg #[.pointer (some ⟨tb,0,none⟩)],.slice ao us.length c] (w.alloc (rdO tb)) fun e w'=>∃v ev,e=.returned (.tuple #[v,ev])/\Hid (FmQ M w s tb mb ps o z v ev w')):=fun ao c h1 h2=>iA (bB w _) (hC _ (Sl.tail1 hS1 us.length rfl ao c h1 h2));have hz:((us.length:Int)+1==0)=false:=by simp;omega
 have cw:(w.alloc (rdO tb)).cell? ⟨w.heap.size,0,none⟩=some (.pointer (some ⟨tb,0,none⟩)):=aA (heap_alloc_new w (rdO tb)) 0;unfold rdV;clear hS hS1 hk hw hC;go_enter func112,ntmps112;go_wp2_with (go_at_call 65;refine(HK.out _ _ (by omega) (by omega)).mono ?_;rintro e w' ⟨rfl,rfl⟩)
 ·refine(HC.out _ _ (by omega) (by intro hh;first | rfl | (exfalso;omega))).mono ?_;rintro e w2 ⟨v,ev,rfl,HQ⟩;go_wp2_with fail;go_ret2;exact HQ.out.post
 ·refine(HC.out _ _ (by omega) (by intro hh;first | rfl | (exfalso;omega))).mono ?_;rintro e w2 ⟨v,ev,rfl,HQ⟩;go_wp2_with fail;go_ret2;exact HQ.out.post
theorem sH(M:Nat->Prop)(w:World)(s:Sg)(tb mb:Nat)(ps:List (PV×PV))(sl u:Value)(us:List Value)(ts:List Tr)(o:FR)(z:Nat)(hS:DRow M w sl (u::us))(hk:Calls prog 65 #[sl] (w.alloc (rdO tb)) fun e w'=>e=.returned (.string ⟨(eG ts).toArray⟩)/\w.alloc (rdO tb)=w')(hw:eG ts=[108,101,116])
  (hC:∀slz,DRow M (w.alloc (rdO tb)) slz us->Calls prog 155 #[rdV tb,slz] (w.alloc (rdO tb)) fun e w'=>FmPost M (w.alloc (rdO tb)) s tb mb ps o z e w') :
  Calls prog 112 #[rdV tb,sl] w fun e w'=>FmPost M w s tb mb ps o z e w':=by
 have hS1:DRow M (w.alloc (rdO tb)) sl (u::us):=Sl.stp (Stp.of_below (bB w (rdO tb))) hS;rw [hw] at hk;obtain⟨g,off,cap,rfl,hcap,hg,c0,_⟩:=(Sl.slOf hS).cell0;have HK:=(show Hid (∀L c,L=us.length+1->c=cap->Calls prog 65 #[.slice (some ⟨g,off,none⟩) L c] (w.alloc (rdO tb)) fun e w'=>e=.returned (.string ⟨([108,101,116]:List UInt8).toArray⟩)/\w.alloc (rdO tb)=w') from by rintro _ _ rfl rfl;exact hk)
 have HC:Hid (∀(ao:Option Addr)(c:Nat),us.length<=c->(us.length≠0->ao=some ⟨g,off+1,none⟩)->Calls prog 155 #[.agg #[.pointer (some ⟨tb,0,none⟩)],.slice ao us.length c] (w.alloc (rdO tb)) fun e w'=>∃v ev,e=.returned (.tuple #[v,ev])/\Hid (FmQ M w s tb mb ps o z v ev w')):=fun ao c h1 h2=>iA (bB w _) (hC _ (Sl.tail1 hS1 us.length rfl ao c h1 h2));have hz:((us.length:Int)+1==0)=false:=by simp;omega
 have cw:(w.alloc (rdO tb)).cell? ⟨w.heap.size,0,none⟩=some (.pointer (some ⟨tb,0,none⟩)):=aA (heap_alloc_new w (rdO tb)) 0;unfold rdV;clear hS hS1 hk hw hC;go_enter func112,ntmps112;go_wp2_with (go_at_call 65;refine(HK.out _ _ (by omega) (by omega)).mono ?_;rintro e w' ⟨rfl,rfl⟩)
 ·refine(HC.out _ _ (by omega) (by intro hh;first | rfl | (exfalso;omega))).mono ?_;rintro e w2 ⟨v,ev,rfl,HQ⟩;go_wp2_with fail;go_ret2;exact HQ.out.post
 ·refine(HC.out _ _ (by omega) (by intro hh;first | rfl | (exfalso;omega))).mono ?_;rintro e w2 ⟨v,ev,rfl,HQ⟩;go_wp2_with fail;go_ret2;exact HQ.out.post
end
end Go.Proofs.YtkgbdddkcjpgfaaGreatDoor
