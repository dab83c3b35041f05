import Derived.Test.YtieooapcfpimlaaGreatDoorL12
namespace Go.Proofs.YtieooapcfpimlaaGreatDoor
set_option maxHeartbeats 2000000
set_option maxRecDepth 100000
open Go.Proofs.Tryz
open Pl (PV FR AE AD BB C4 BN EE EF isName)
section
open Go.RowKit
variable {M:Nat->Prop} {w w':World} {tb n mb z:Nat}
theorem A5.more{s:Sg}{ps:List (PV×PV)}{o:FR}{z':Nat}{e:Ending}(d:z<=z')(h:A5 M w s tb mb ps o z e w'):A5 M w s tb mb ps o z' e w':=by obtain⟨a,t,b,f,c⟩:=h;exact⟨a,t,b,by omega,c⟩
theorem LM.post{s:Sg}{ps:List (PV×PV)}{o:FR}{v ev:Value}(h:LM M w s tb mb ps o z v ev w'):A5 M w s tb mb ps o z (.returned (.tuple #[v,ev])) w':=by
 obtain⟨c,t,d,e,⟨r,a,rfl,b⟩ | ⟨a,b,f,g,rfl⟩⟩:=h
 ·exact⟨c,t,d,e,.inl ⟨r,v,a,rfl,b⟩⟩
 ·exact⟨c,t,d,e,.inr ⟨a,b,f,v,g,rfl⟩⟩
theorem iA{wz:World}{s:Sg}{ps:List (PV×PV)}{o:FR}{f:FuncId}{xs:Array Value}(c:Below w.heap.size w wz)(h:Calls prog f xs wz fun e a=>A5 M wz s tb mb ps o z e a):Calls prog f xs wz fun e a=>∃v b,e=.returned (.tuple #[v,b])/\Hid (LM M w s tb mb ps o z v b a) :=
 h.mono (fun e a h=>by
  obtain⟨v,b,d,g⟩:=h.one
  exact⟨v,b,d,g.from_ c⟩)
theorem nE(M:Nat->Prop)(w:World)(s:Sg)(tb mb:Nat)(ps:List (PV×PV))(sl u:Value)(us:List Value)(n:List Tr)(o:FR)(z:Nat)(j:CD M w sl (u::us))(k:Calls prog 41 #[sl] (w.alloc (A0 tb)) fun e a=>e=.returned (.string ⟨(eG n).toArray⟩)/\w.alloc (A0 tb)=a)(p:eG n=[113,117,111,116,101])
  (q:∀b,CD M (w.alloc (A0 tb)) b us->Calls prog 72 #[D2 tb,b] (w.alloc (A0 tb)) fun e a=>A5 M (w.alloc (A0 tb)) s tb mb ps o z e a) :
  Calls prog 54 #[D2 tb,sl] w fun e a=>A5 M w s tb mb ps o z e a:=by
 have d:CD M (w.alloc (A0 tb)) sl (u::us):=Sl.AQ (Stp.AA (bB w (A0 tb))) j;rw [p] at k;obtain⟨g,f,l,rfl,r,D,E,_⟩:=(Sl.C7 j).cell0;have x:=(show Hid (∀L c,L=us.length+1->c=l->Calls prog 41 #[.slice (some ⟨g,f,none⟩) L c] (w.alloc (A0 tb)) fun e a=>e=.returned (.string ⟨([113,117,111,116,101]:List UInt8).toArray⟩)/\w.alloc (A0 tb)=a) from by rintro _ _ rfl rfl;exact k)
 have t:Hid (∀(h:Option Addr)(c:Nat),us.length<=c->(us.length≠0->h=some ⟨g,f+1,none⟩)->Calls prog 72 #[.agg #[.pointer (some ⟨tb,0,none⟩)],.slice h us.length c] (w.alloc (A0 tb)) fun e a=>∃v i,e=.returned (.tuple #[v,i])/\Hid (LM M w s tb mb ps o z v i a)):=fun h c y A=>iA (bB w _) (q _ (Sl.J4 d us.length rfl h c y A));have F:((us.length:Int)+1==0)=false:=by simp;omega
 have G:(w.alloc (A0 tb)).cell? ⟨w.heap.size,0,none⟩=some (.pointer (some ⟨tb,0,none⟩)):=aA (heap_alloc_new w (A0 tb)) 0;unfold D2;clear j d k p q;go_enter func54,ntmps54;go_wp2_with (go_at_call 41;refine(x _ _ (by omega) (by omega)).mono ?_;rintro e a ⟨rfl,rfl⟩)
 ·refine(t _ _ (by omega) (by intro B;first | rfl | (exfalso;omega))).mono ?_;rintro e C ⟨v,i,rfl,m⟩;go_wp2_with fail;go_ret2;exact m.post
 ·refine(t _ _ (by omega) (by intro B;first | rfl | (exfalso;omega))).mono ?_;rintro e C ⟨v,i,rfl,m⟩;go_wp2_with fail;go_ret2;exact m.post
theorem lT(M:Nat->Prop)(w:World)(s:Sg)(tb mb:Nat)(ps:List (PV×PV))(sl u:Value)(us:List Value)(n:List Tr)(o:FR)(z:Nat)(j:CD M w sl (u::us))(k:Calls prog 41 #[sl] (w.alloc (A0 tb)) fun e a=>e=.returned (.string ⟨(eG n).toArray⟩)/\w.alloc (A0 tb)=a)(p:eG n=[105,102])
  (q:∀b,CD M (w.alloc (A0 tb)) b us->Calls prog 73 #[D2 tb,b] (w.alloc (A0 tb)) fun e a=>A5 M (w.alloc (A0 tb)) s tb mb ps o z e a) :
  Calls prog 54 #[D2 tb,sl] w fun e a=>A5 M w s tb mb ps o z e a:=by
 have d:CD M (w.alloc (A0 tb)) sl (u::us):=Sl.AQ (Stp.AA (bB w (A0 tb))) j;rw [p] at k;obtain⟨g,f,l,rfl,r,D,E,_⟩:=(Sl.C7 j).cell0;have x:=(show Hid (∀L c,L=us.length+1->c=l->Calls prog 41 #[.slice (some ⟨g,f,none⟩) L c] (w.alloc (A0 tb)) fun e a=>e=.returned (.string ⟨([105,102]:List UInt8).toArray⟩)/\w.alloc (A0 tb)=a) from by rintro _ _ rfl rfl;exact k)
 have t:Hid (∀(h:Option Addr)(c:Nat),us.length<=c->(us.length≠0->h=some ⟨g,f+1,none⟩)->Calls prog 73 #[.agg #[.pointer (some ⟨tb,0,none⟩)],.slice h us.length c] (w.alloc (A0 tb)) fun e a=>∃v i,e=.returned (.tuple #[v,i])/\Hid (LM M w s tb mb ps o z v i a)):=fun h c y A=>iA (bB w _) (q _ (Sl.J4 d us.length rfl h c y A));have F:((us.length:Int)+1==0)=false:=by simp;omega
 have G:(w.alloc (A0 tb)).cell? ⟨w.heap.size,0,none⟩=some (.pointer (some ⟨tb,0,none⟩)):=aA (heap_alloc_new w (A0 tb)) 0;unfold D2;clear j d k p q;go_enter func54,ntmps54;go_wp2_with (go_at_call 41;refine(x _ _ (by omega) (by omega)).mono ?_;rintro e a ⟨rfl,rfl⟩)
 ·refine(t _ _ (by omega) (by intro B;first | rfl | (exfalso;omega))).mono ?_;rintro e C ⟨v,i,rfl,m⟩;go_wp2_with fail;go_ret2;exact m.post
 ·refine(t _ _ (by omega) (by intro B;first | rfl | (exfalso;omega))).mono ?_;rintro e C ⟨v,i,rfl,m⟩;go_wp2_with fail;go_ret2;exact m.post
theorem nF(M:Nat->Prop)(w:World)(s:Sg)(tb mb:Nat)(ps:List (PV×PV))(sl u:Value)(us:List Value)(n:List Tr)(o:FR)(z:Nat)(j:CD M w sl (u::us))(k:Calls prog 41 #[sl] (w.alloc (A0 tb)) fun e a=>e=.returned (.string ⟨(eG n).toArray⟩)/\w.alloc (A0 tb)=a)(p:eG n=[98,101,103,105,110])
  (q:∀b,CD M (w.alloc (A0 tb)) b us->Calls prog 74 #[D2 tb,b] (w.alloc (A0 tb)) fun e a=>A5 M (w.alloc (A0 tb)) s tb mb ps o z e a) :
  Calls prog 54 #[D2 tb,sl] w fun e a=>A5 M w s tb mb ps o z e a:=by
 have d:CD M (w.alloc (A0 tb)) sl (u::us):=Sl.AQ (Stp.AA (bB w (A0 tb))) j;rw [p] at k;obtain⟨g,f,l,rfl,r,D,E,_⟩:=(Sl.C7 j).cell0;have x:=(show Hid (∀L c,L=us.length+1->c=l->Calls prog 41 #[.slice (some ⟨g,f,none⟩) L c] (w.alloc (A0 tb)) fun e a=>e=.returned (.string ⟨([98,101,103,105,110]:List UInt8).toArray⟩)/\w.alloc (A0 tb)=a) from by rintro _ _ rfl rfl;exact k)
 have t:Hid (∀(h:Option Addr)(c:Nat),us.length<=c->(us.length≠0->h=some ⟨g,f+1,none⟩)->Calls prog 74 #[.agg #[.pointer (some ⟨tb,0,none⟩)],.slice h us.length c] (w.alloc (A0 tb)) fun e a=>∃v i,e=.returned (.tuple #[v,i])/\Hid (LM M w s tb mb ps o z v i a)):=fun h c y A=>iA (bB w _) (q _ (Sl.J4 d us.length rfl h c y A));have F:((us.length:Int)+1==0)=false:=by simp;omega
 have G:(w.alloc (A0 tb)).cell? ⟨w.heap.size,0,none⟩=some (.pointer (some ⟨tb,0,none⟩)):=aA (heap_alloc_new w (A0 tb)) 0;unfold D2;clear j d k p q;go_enter func54,ntmps54;go_wp2_with (go_at_call 41;refine(x _ _ (by omega) (by omega)).mono ?_;rintro e a ⟨rfl,rfl⟩)
 ·refine(t _ _ (by omega) (by intro B;first | rfl | (exfalso;omega))).mono ?_;rintro e C ⟨v,i,rfl,m⟩;go_wp2_with fail;go_ret2;exact m.post
 ·refine(t _ _ (by omega) (by intro B;first | rfl | (exfalso;omega))).mono ?_;rintro e C ⟨v,i,rfl,m⟩;go_wp2_with fail;go_ret2;exact m.post
theorem sF(M:Nat->Prop)(w:World)(s:Sg)(tb mb:Nat)(ps:List (PV×PV))(sl u:Value)(us:List Value)(n:List Tr)(o:FR)(z:Nat)(j:CD M w sl (u::us))(k:Calls prog 41 #[sl] (w.alloc (A0 tb)) fun e a=>e=.returned (.string ⟨(eG n).toArray⟩)/\w.alloc (A0 tb)=a)(p:eG n=[115,101,116,33])
  (q:∀b,CD M (w.alloc (A0 tb)) b us->Calls prog 75 #[D2 tb,b] (w.alloc (A0 tb)) fun e a=>A5 M (w.alloc (A0 tb)) s tb mb ps o z e a) :
  Calls prog 54 #[D2 tb,sl] w fun e a=>A5 M w s tb mb ps o z e a:=by
 have d:CD M (w.alloc (A0 tb)) sl (u::us):=Sl.AQ (Stp.AA (bB w (A0 tb))) j;rw [p] at k;obtain⟨g,f,l,rfl,r,D,E,_⟩:=(Sl.C7 j).cell0;have x:=(show Hid (∀L c,L=us.length+1->c=l->Calls prog 41 #[.slice (some ⟨g,f,none⟩) L c] (w.alloc (A0 tb)) fun e a=>e=.returned (.string ⟨([115,101,116,33]:List UInt8).toArray⟩)/\w.alloc (A0 tb)=a) from by rintro _ _ rfl rfl;exact k)
 have t:Hid (∀(h:Option Addr)(c:Nat),us.length<=c->(us.length≠0->h=some ⟨g,f+1,none⟩)->Calls prog 75 #[.agg #[.pointer (some ⟨tb,0,none⟩)],.slice h us.length c] (w.alloc (A0 tb)) fun e a=>∃v i,e=.returned (.tuple #[v,i])/\Hid (LM M w s tb mb ps o z v i a)):=fun h c y A=>iA (bB w _) (q _ (Sl.J4 d us.length rfl h c y A));have F:((us.length:Int)+1==0)=false:=by simp;omega
 have G:(w.alloc (A0 tb)).cell? ⟨w.heap.size,0,none⟩=some (.pointer (some ⟨tb,0,none⟩)):=aA (heap_alloc_new w (A0 tb)) 0;unfold D2;clear j d k p q;go_enter func54,ntmps54;go_wp2_with (go_at_call 41;refine(x _ _ (by omega) (by omega)).mono ?_;rintro e a ⟨rfl,rfl⟩)
 ·refine(t _ _ (by omega) (by intro B;first | rfl | (exfalso;omega))).mono ?_;rintro e C ⟨v,i,rfl,m⟩;go_wp2_with fail;go_ret2;exact m.post
 ·refine(t _ _ (by omega) (by intro B;first | rfl | (exfalso;omega))).mono ?_;rintro e C ⟨v,i,rfl,m⟩;go_wp2_with fail;go_ret2;exact m.post
theorem fZ(M:Nat->Prop)(w:World)(s:Sg)(tb mb:Nat)(ps:List (PV×PV))(sl u:Value)(us:List Value)(n:List Tr)(o:FR)(z:Nat)(j:CD M w sl (u::us))(k:Calls prog 41 #[sl] (w.alloc (A0 tb)) fun e a=>e=.returned (.string ⟨(eG n).toArray⟩)/\w.alloc (A0 tb)=a)(p:eG n=[108,97,109,98,100,97])
  (q:∀b,CD M (w.alloc (A0 tb)) b us->Calls prog 76 #[D2 tb,b] (w.alloc (A0 tb)) fun e a=>A5 M (w.alloc (A0 tb)) s tb mb ps o z e a) :
  Calls prog 54 #[D2 tb,sl] w fun e a=>A5 M w s tb mb ps o z e a:=by
 have d:CD M (w.alloc (A0 tb)) sl (u::us):=Sl.AQ (Stp.AA (bB w (A0 tb))) j;rw [p] at k;obtain⟨g,f,l,rfl,r,D,E,_⟩:=(Sl.C7 j).cell0;have x:=(show Hid (∀L c,L=us.length+1->c=l->Calls prog 41 #[.slice (some ⟨g,f,none⟩) L c] (w.alloc (A0 tb)) fun e a=>e=.returned (.string ⟨([108,97,109,98,100,97]:List UInt8).toArray⟩)/\w.alloc (A0 tb)=a) from by rintro _ _ rfl rfl;exact k)
 have t:Hid (∀(h:Option Addr)(c:Nat),us.length<=c->(us.length≠0->h=some ⟨g,f+1,none⟩)->Calls prog 76 #[.agg #[.pointer (some ⟨tb,0,none⟩)],.slice h us.length c] (w.alloc (A0 tb)) fun e a=>∃v i,e=.returned (.tuple #[v,i])/\Hid (LM M w s tb mb ps o z v i a)):=fun h c y A=>iA (bB w _) (q _ (Sl.J4 d us.length rfl h c y A));have F:((us.length:Int)+1==0)=false:=by simp;omega
 have G:(w.alloc (A0 tb)).cell? ⟨w.heap.size,0,none⟩=some (.pointer (some ⟨tb,0,none⟩)):=aA (heap_alloc_new w (A0 tb)) 0;unfold D2;clear j d k p q;go_enter func54,ntmps54;go_wp2_with (go_at_call 41;refine(x _ _ (by omega) (by omega)).mono ?_;rintro e a ⟨rfl,rfl⟩)
 ·refine(t _ _ (by omega) (by intro B;first | rfl | (exfalso;omega))).mono ?_;rintro e C ⟨v,i,rfl,m⟩;go_wp2_with fail;go_ret2;exact m.post
 ·refine(t _ _ (by omega) (by intro B;first | rfl | (exfalso;omega))).mono ?_;rintro e C ⟨v,i,rfl,m⟩;go_wp2_with fail;go_ret2;exact m.post
theorem sH(M:Nat->Prop)(w:World)(s:Sg)(tb mb:Nat)(ps:List (PV×PV))(sl u:Value)(us:List Value)(n:List Tr)(o:FR)(z:Nat)(j:CD M w sl (u::us))(k:Calls prog 41 #[sl] (w.alloc (A0 tb)) fun e a=>e=.returned (.string ⟨(eG n).toArray⟩)/\w.alloc (A0 tb)=a)(p:eG n=[108,101,116])
  (q:∀b,CD M (w.alloc (A0 tb)) b us->Calls prog 77 #[D2 tb,b] (w.alloc (A0 tb)) fun e a=>A5 M (w.alloc (A0 tb)) s tb mb ps o z e a) :
  Calls prog 54 #[D2 tb,sl] w fun e a=>A5 M w s tb mb ps o z e a:=by
 have d:CD M (w.alloc (A0 tb)) sl (u::us):=Sl.AQ (Stp.AA (bB w (A0 tb))) j;rw [p] at k;obtain⟨g,f,l,rfl,r,D,E,_⟩:=(Sl.C7 j).cell0;have x:=(show Hid (∀L c,L=us.length+1->c=l->Calls prog 41 #[.slice (some ⟨g,f,none⟩) L c] (w.alloc (A0 tb)) fun e a=>e=.returned (.string ⟨([108,101,116]:List UInt8).toArray⟩)/\w.alloc (A0 tb)=a) from by rintro _ _ rfl rfl;exact k)
 have t:Hid (∀(h:Option Addr)(c:Nat),us.length<=c->(us.length≠0->h=some ⟨g,f+1,none⟩)->Calls prog 77 #[.agg #[.pointer (some ⟨tb,0,none⟩)],.slice h us.length c] (w.alloc (A0 tb)) fun e a=>∃v i,e=.returned (.tuple #[v,i])/\Hid (LM M w s tb mb ps o z v i a)):=fun h c y A=>iA (bB w _) (q _ (Sl.J4 d us.length rfl h c y A));have F:((us.length:Int)+1==0)=false:=by simp;omega
 have G:(w.alloc (A0 tb)).cell? ⟨w.heap.size,0,none⟩=some (.pointer (some ⟨tb,0,none⟩)):=aA (heap_alloc_new w (A0 tb)) 0;unfold D2;clear j d k p q;go_enter func54,ntmps54;go_wp2_with (go_at_call 41;refine(x _ _ (by omega) (by omega)).mono ?_;rintro e a ⟨rfl,rfl⟩)
 ·refine(t _ _ (by omega) (by intro B;first | rfl | (exfalso;omega))).mono ?_;rintro e C ⟨v,i,rfl,m⟩;go_wp2_with fail;go_ret2;exact m.post
 ·refine(t _ _ (by omega) (by intro B;first | rfl | (exfalso;omega))).mono ?_;rintro e C ⟨v,i,rfl,m⟩;go_wp2_with fail;go_ret2;exact m.post
theorem lU(M:Nat->Prop)(w:World)(s:Sg)(tb mb:Nat)(ps:List (PV×PV))(sl u:Value)(us:List Value)(h:List Tr)(o:FR)(z:Nat)(i:BM M w s tb mb ps)(j:CD M w sl (u::us))(b:Calls prog 41 #[sl] (w.alloc (A0 tb)) fun e a=>e=.returned (.string ⟨(eG h).toArray⟩)/\w.alloc (A0 tb)=a)(k:eG h=[100,101,102,105,110,101])(l:o=none) :Calls prog 54 #[D2 tb,sl] w fun e a=>A5 M w s tb mb ps o z e a:=by
 rw [k] at b;obtain⟨g,d,f,rfl,m,r,t,_⟩:=(Sl.C7 j).cell0;have q:=(show Hid (∀L c,L=us.length+1->c=f->Calls prog 41 #[.slice (some ⟨g,d,none⟩) L c] (w.alloc (A0 tb)) fun e a=>e=.returned (.string ⟨([100,101,102,105,110,101]:List UInt8).toArray⟩)/\w.alloc (A0 tb)=a) from by rintro _ _ rfl rfl;exact b)
 have v:((us.length:Int)+1==0)=false:=by simp;omega
 have x:(w.alloc (A0 tb)).cell? ⟨w.heap.size,0,none⟩=some (.pointer (some ⟨tb,0,none⟩)):=aA (heap_alloc_new w (A0 tb)) 0;have n:=h_ i;have p:=h_ l;unfold D2;clear j b k i l;go_enter func54,ntmps54;go_wp2_with (first | (go_at_call 41;refine(q _ _ (by omega) (by omega)).mono ?_;rintro e a ⟨rfl,rfl⟩) | (go_at_call 71;refine(aS _ _).mono ?_;rintro e a ⟨rfl,rfl⟩))
 ·go_ret2;exact⟨aI (bB w _),s,DK.refl _,Nat.le_add_right _ _,.inr ⟨p,rfl,n.below (bB w _),_,_,rfl⟩⟩
 ·go_ret2;exact⟨aI (bB w _),s,DK.refl _,Nat.le_add_right _ _,.inr ⟨p,rfl,n.below (bB w _),_,_,rfl⟩⟩
theorem oV(M:Nat->Prop)(w:World)(s:Sg)(tb mb:Nat)(ps:List (PV×PV))(sl u:Value)(us:List Value)(j:List Tr)(o:FR)(z:Nat)(k:CD M w sl (u::us))(h:Calls prog 41 #[sl] (w.alloc (A0 tb)) fun e a=>e=.returned (.string ⟨(eG j).toArray⟩)/\w.alloc (A0 tb)=a)(l:eG j=[])
  (m:Calls prog 78 #[D2 tb,sl] (w.alloc (A0 tb)) fun e a=>A5 M (w.alloc (A0 tb)) s tb mb ps o z e a) :
  Calls prog 54 #[D2 tb,sl] w fun e a=>A5 M w s tb mb ps o z e a:=by
 rw [l] at h;obtain⟨g,b,d,rfl,n,t,x,_⟩:=(Sl.C7 k).cell0;have q:=(show Hid (∀L c,L=us.length+1->c=d->Calls prog 41 #[.slice (some ⟨g,b,none⟩) L c] (w.alloc (A0 tb)) fun e a=>e=.returned (.string ⟨([]:List UInt8).toArray⟩)/\w.alloc (A0 tb)=a) from by rintro _ _ rfl rfl;exact h)
 have p:Hid (∀L c,L=us.length+1->c=d->Calls prog 78 #[.agg #[.pointer (some ⟨tb,0,none⟩)],.slice (some ⟨g,b,none⟩) L c] (w.alloc (A0 tb)) fun e a=>∃v f,e=.returned (.tuple #[v,f])/\Hid (LM M w s tb mb ps o z v f a)):=by rintro _ _ rfl rfl;exact iA (bB w _) m
 have y:((us.length:Int)+1==0)=false:=by simp;omega
 have A:(w.alloc (A0 tb)).cell? ⟨w.heap.size,0,none⟩=some (.pointer (some ⟨tb,0,none⟩)):=aA (heap_alloc_new w (A0 tb)) 0;unfold D2;clear k h l m;go_enter func54,ntmps54;go_wp2_with (go_at_call 41;refine(q _ _ (by omega) (by omega)).mono ?_;rintro e a ⟨rfl,rfl⟩)
 ·refine(p _ _ (by omega) (by omega)).mono ?_;rintro e r ⟨v,f,rfl,i⟩;go_wp2_with fail;go_ret2;exact i.post
 ·refine(p _ _ (by omega) (by omega)).mono ?_;rintro e r ⟨v,f,rfl,i⟩;go_wp2_with fail;go_ret2;exact i.post
theorem sG(M:Nat->Prop)(w:World)(s:Sg)(tb mb:Nat)(ps:List (PV×PV))(sl:Value)(o:FR)(z:Nat)(a:BM M w s tb mb ps)(b:CD M w sl [])(c:o=none) :Calls prog 54 #[D2 tb,sl] w fun e d=>A5 M w s tb mb ps o z e d:=by obtain⟨i,f,rfl,_⟩:=Sl.C7 b;have g:=h_ a;have h:=h_ c;unfold D2;clear b a c;go_enter func54,ntmps54;go_wp2_with (go_at_call 71;refine(aS _ _).mono ?_;rintro e d ⟨rfl,rfl⟩);go_ret2;exact⟨aI (bB w _),s,DK.refl _,Nat.le_add_right _ _,.inr ⟨h,rfl,g.below (bB w _),_,_,rfl⟩⟩
theorem wI{b:List Tr}{h:List UInt8}(a:Pl.BJ b=some h):EE h=true:=by
 unfold Pl.BJ at a;split at a
 ·split at a
  ·obtain rfl:=i_ a;assumption
  ·simp at a
 ·simp at a
theorem pF{sl:Value}{vs:List Value}{a:List Tr}(c:CD M w sl vs)(b:C9 M n w vs a):Calls prog 41 #[sl] (w.alloc (A0 tb)) fun e d=>e=.returned (.string ⟨(eG a).toArray⟩)/\w.alloc (A0 tb)=d :=oX _ n sl vs a (w.alloc (A0 tb)) w (Sl.C7 (Sl.AQ (Stp.AA (bB w (A0 tb))) c)) b.1 (fun u x f g=>b.2 0 u x (by rw [<- List.head?_eq_getElem?];exact f) (by rw [<- List.head?_eq_getElem?];exact g))
theorem C9.tail{u:Value}{us:List Value}{t:Tr}{r:List Tr}(h:C9 M n w (u::us) (t::r)):C9 M n w us r:=BY.drop h 1
theorem C9.below{us:List Value}{r:List Tr}(h:C9 M n w us r)(a:Below w.heap.size w w'):C9 M n w' us r:=BY.mono h (fun _ _ h=>h.go (Stp.AA a))
theorem XI(n:Nat)(O:n<=1000)(q:GB n)(P:JG n)(M:Nat->Prop)(w:World)(s:Sg)(tb mb:Nat)(ps:List (PV×PV))(sl:Value)(vs:List Value)(p:List Tr)(I:BM M w s tb mb ps)(k:CD M w sl vs)(y:C9 M n w vs p)(L:∀x∈p,cL n x)(A:p.length<=1000)(c:s.ns.length+(p.map (BB n)).sum<=BS) :Calls prog 54 #[D2 tb,sl] w fun e B=>A5 M w s tb mb ps (EF (Pl.Q1 (AD n) p) ps.length) (p.map (BB n)).sum e B:=by
 have H:=bB w (A0 tb);have d:=I.below H
 match vs,p,y.1 with
 | [],[],_=>exact sG M w s tb mb ps sl _ _ I k rfl
 | u::f,t::r,_ =>
  have C:r.length<=1000:=by simp at A;omega
  have o:=pF (tb:=tb) k y;have g:=(C9.tail y).below H;have j:∀x∈r,cL n x:=fun x D=>L x (List.mem_cons_of_mem _ D);have J:(r.map (BB n)).sum<=((t::r).map (BB n)).sum:=by simp
  have m:s.ns.length+(r.map (BB n)).sum<=BS:=by omega
  cases E:Pl.BJ (t::r) with
  | none =>
   have b:eG (t::r)=[]:=by unfold eG;rw [E]
   have K:Pl.Q1 (AD n) (t::r)=(Pl.B1 (AD n) (t::r)).map fun l=>BN .call [] .nil l []:=by show(match Pl.BJ (t::r) with | some h=>Pl.IN (AD n) (.agg (t::r)) h r | none=>(Pl.B1 (AD n) (t::r)).map fun l=>BN .call [] .nil l [])=_;rw [E]
   refine oV M w s tb mb ps sl u f (t::r) _ _ k o b ?_;refine S7 M _ s tb mb ps sl (u::f) ((t::r).map fun x=>EF (AD n x)) ((t::r).map (BB n)) d (Sl.AQ (Stp.AA H) k) (by rw [List.length_map];exact y.1) (by simp) (by rw [List.length_map];omega) (by simp) c y.iface ?_ _ ?_
   ·intro i v F z Q N c;rw [List.getElem?_map,Option.map_eq_some_iff] at N c;obtain⟨x,D,rfl⟩:=N;obtain⟨S,G,rfl⟩:=c;rw [D] at G;obtain rfl:=i_ G;exact q M _ v x ((y.2 i v x Q D).go (Stp.AA H)) (L x (q_ D))
   ·rw [K,Pl.KP]
    cases Pl.B1 (AD n) (t::r) with
    | none=>rfl
    | some l=>simp [EF,BN,Pl.BC]
  | some h =>
   have b:eG (t::r)=h:=by unfold eG;rw [E]
   have K:Pl.Q1 (AD n) (t::r)=Pl.IN (AD n) (.agg (t::r)) h r:=by show(match Pl.BJ (t::r) with | some h=>Pl.IN (AD n) (.agg (t::r)) h r | none=>(Pl.B1 (AD n) (t::r)).map fun l=>BN .call [] .nil l [])=_;rw [E]
   rw [K];refine Calls.mono (R:=fun e B=>A5 M w s tb mb ps (EF (Pl.IN (AD n) (.agg (t::r)) h r) ps.length) (r.map (BB n)).sum e B) ?_ (fun e B h=>A5.more J h);rcases kwB_true (wI E) with rfl | rfl | rfl | rfl | rfl | rfl | rfl
   ·refine nE M w s tb mb ps sl u f (t::r) _ _ k o b (fun a c=>?_);exact(XJ n O M _ s tb mb ps a f r t d c g j _ rfl).mono (fun e B h=>h.more (Nat.zero_le _))
   ·refine lT M w s tb mb ps sl u f (t::r) _ _ k o b (fun a c=>?_);exact yU n q M _ s tb mb ps a f r d c g j C m _ rfl
   ·refine fZ M w s tb mb ps sl u f (t::r) _ _ k o b (fun a c=>?_);exact qQ n q M _ s tb mb ps a f r d c g j m _ rfl
   ·refine sF M w s tb mb ps sl u f (t::r) _ _ k o b (fun a c=>?_);exact p_set n q M _ s tb mb ps a f r d c g j m _ rfl
   ·exact lU M w s tb mb ps sl u f (t::r) _ _ I k o b rfl
   ·refine nF M w s tb mb ps sl u f (t::r) _ _ k o b (fun a c=>?_);exact XP n q M _ s tb mb ps a f r d c g j C m _ rfl
   ·refine sH M w s tb mb ps sl u f (t::r) _ _ k o b (fun a c=>?_);exact p_let n q P M _ s tb mb ps a f r d c g j m _ rfl
theorem jG(M:Nat->Prop)(w:World)(s:Sg)(tb mb:Nat)(ps:List (PV×PV))(sl:Value)(vs:List Value)(o:FR)(z:Nat)(b:CD M w sl vs)(c:Calls prog 54 #[D2 tb,sl] (w.alloc (A0 tb)) fun e a=>A5 M (w.alloc (A0 tb)) s tb mb ps o z e a) :Calls prog 43 #[D2 tb,.iface 118 sl] w fun e a=>A5 M w s tb mb ps o z e a:=by have f:=Tryz.ET;obtain⟨i,g,rfl,_⟩:=Sl.C7 b;have d:Hid _:=iA (bB w _) c;unfold D2 at d ⊢;clear b c;go_enter func43,ntmps43;go_wp2_with fail;refine Calls.mono d ?_;rintro e j ⟨v,k,rfl,h⟩;go_wp2_with fail;go_ret2;exact h.post
theorem oY(M:Nat->Prop)(w:World)(s:Sg)(tb mb:Nat)(ps:List (PV×PV))(x:AE)(o:FR)(j:BM M w s tb mb ps)(t:x.length<=300)(m:s.ns.length+1<=BS)(n:o=EF (if EE x then none else some (BN .name x .nil [] [])) ps.length) :Calls prog 43 #[D2 tb,.iface 120 (.string ⟨x.toArray⟩)] w fun e u=>A5 M w s tb mb ps o 1 e u:=by
 have v:=Tryz.FN;have z:=Tryz.FM;have A:=h_ j;have p:=h_ n;have q:=bB w (A0 tb);have g:=(show Hid _ from qP (fun _=>True) 1 w M (w.alloc (A0 tb)) s tb mb ps (.iface 120 (.string ⟨x.toArray⟩)) (.lit (.string x)) rfl (j.below q) (fun y d=>by injection d with d;injection d with d;subst d;exact⟨by omega,m⟩))
 unfold D2 at g ⊢;clear j t m n q;go_enter func43,ntmps43;go_wp2_with fail;refine Calls.mono g ?_;rintro e c h;obtain⟨i,⟨y,a,f,rfl,r⟩ | ⟨a,f,B,rfl⟩⟩:=h
 ·injection a with a
  injection a with a
  subst a;have k:Hid (w.grownBy c (some mb)):=aM (aI (bB w _)) i;have l:=h_ r;have b:Hid (o=some (BN .name x .nil [] [],[])):=show o=_ from by rw [p.out,f];simp [EF,BN,Pl.BC,Pl.BV]
  clear i r f g;go_wp2_with fail;go_ret2;exact⟨aM k (aI (bB c _)),s.named x,s.E5 x,dE _ _,.inl ⟨_,_,b,rfl,by rw [List.append_nil];exact l.below (bB c _),.name _ _ _ _ _ _ (internL_get s.ns x)⟩⟩
 ·have k:Hid (w.grownBy c (some mb)):=aM (aI (bB w _)) i;have l:=h_ f
  have b:Hid (o=none):=show o=_ from by
   rw [p.out];have:EE x=true:=by simpa [isName] using a
   rw [this];rfl
  clear i f a g;unfold aY;go_wp2_with fail;go_ret2;exact⟨aM k (aI (bB c _)),s,DK.refl _,Nat.le_add_right _ _,.inr ⟨b,rfl,l.below (bB c _),_,_,rfl⟩⟩
theorem hZ(M:Nat->Prop)(w:World)(s:Sg)(tb mb:Nat)(ps:List (PV×PV))(v:Value)(t:Tr)(n:Nat)(o:FR)(A:BM M w s tb mb ps)(g:AN (fun k=>¬M k) (n+1) w v t)(B:cL (n+1) t)(q:(∃k m,t=.lit (.int k m))\/∃b,t=.lit (.bool b))(C:o=EF (some (BN .const [] t [] [])) ps.length) :Calls prog 43 #[D2 tb,v] w fun e G=>A5 M w s tb mb ps o 1 e G:=by
 have H:=Tryz.FY;have I:=Tryz.GO;have J:=Tryz.EO;have K:=Tryz.E7;have a:=h_ (A.below (bB w (A0 tb)));have r:Pl.quoted t=t/\isQ t=false:=by rcases q with⟨k,m,rfl⟩ | ⟨b,rfl⟩<;>exact⟨rfl,rfl⟩
 have D:=h_ r.2.symm;have E:Hid (o=some (Pl.PF.mk .const [] t (Pl.made 1000 ps.length t).1 [] [],(Pl.made 1000 ps.length t).2)):=show o=_ from by rw [C];simp [EF,BN,Pl.CI,r.1]
 have F:=(show Hid _ from p_of 1000 M _ _ s ps v t a.pairs a.mlt (by
  have L:AN (fun k=>¬M k) 1 w v t:=by rcases q with⟨k,m,rfl⟩ | ⟨b,rfl⟩<;>exact g
  exact AN.up _ _ _ _ (show 1<=1000 by omega) (L.later (bB w (A0 tb)))) (mF (n+1) 1000 v t g B))
 clear A C r B;unfold D2;rcases q with⟨k,m,rfl⟩ | ⟨b,rfl⟩
 ·obtain⟨P,rfl,_⟩:=g;go_enter func43,ntmps43;go_wp2_with fail;refine Calls.mono F ?_;rintro e h ⟨v,t,rfl,f,i,c,d⟩;have u:=h_ f;have x:Hid (BM M h t tb mb (ps++_)):=show BM _ _ _ _ _ _ from⟨by obtain⟨l,rfl⟩:=d;exact a.B3.keep (c.block _ a.B3.lt.1) (c.block _ a.B3.lt.2),i,a.FV,a.JJ,fun j y=>l_ (a.mlt j y) c.size⟩;have z:Hid (w.grownBy h (some mb)):=aI ((bB w _).trans (c.mono (bB w _).size));have p:Hid (DK s t/\t.ns.length<=s.ns.length+1):=⟨d.r,by obtain⟨l,rfl⟩:=d;exact Nat.le_add_right _ _⟩
  obtain⟨N,O,rfl⟩:=f.iface;clear f i c d a;go_wp2_with fail;go_ret2;exact⟨z,t,p.1,p.2,.inl ⟨_,_,E,rfl,x,.const _ false [] _ _ [] [] u D⟩⟩
 ·obtain rfl:=(show v=_ from g)
  clear g;go_enter func43,ntmps43;go_wp2_with fail;refine Calls.mono F ?_;rintro e h ⟨v,t,rfl,f,i,c,d⟩;have u:=h_ f;have x:Hid (BM M h t tb mb (ps++_)):=show BM _ _ _ _ _ _ from⟨by obtain⟨l,rfl⟩:=d;exact a.B3.keep (c.block _ a.B3.lt.1) (c.block _ a.B3.lt.2),i,a.FV,a.JJ,fun j y=>l_ (a.mlt j y) c.size⟩;have z:Hid (w.grownBy h (some mb)):=aI ((bB w _).trans (c.mono (bB w _).size));have p:Hid (DK s t/\t.ns.length<=s.ns.length+1):=⟨d.r,by obtain⟨l,rfl⟩:=d;exact Nat.le_add_right _ _⟩
  obtain⟨N,O,rfl⟩:=f.iface;clear f i c d a;go_wp2_with fail;go_ret2;exact⟨z,t,p.1,p.2,.inl ⟨_,_,E,rfl,x,.const _ false [] _ _ [] [] u D⟩⟩
theorem zY(n:Nat)(A:GB n):JG n:=by
 intro F G v a b f B C M w s e g h i D E;obtain⟨j,k,rfl,p,q,_⟩:=(f.go i).RQ;have l:=bB w (A0 e);have r:=bB (w.alloc (A0 e)) (A0 e);have c:CD M (w.alloc (A0 e)) j k:=Sl.AQ (Stp.AA l) p;have d:=C9.below q l;refine jG M w s e g h j k _ _ p ?_
 match k,q.1,c,d with
 | [u,t,y],_,c,d =>
  refine fZ M _ s e g h j u [t,y] [.lit (.string Pl.C3),a,b] _ _ c (pF c d) rfl (fun m o=>?_)
  have:=qQ n A M _ s e g h m [t,y] [a,b] ((D.below l).below r) o (C9.below (C9.tail d) r) (fun x z=>by
   simp only [List.mem_cons,List.not_mem_nil,or_false] at z;rcases z with rfl | rfl
   ·exact B
   ·exact C) (by simpa using E) _ rfl
  rw [show([a,b].map (BB n)).sum=BB n a+BB n b from by simp] at this;exact this
theorem wP:∀n,n<=1001->GB n
 | 0,_=>fun _ _ _ _ h=>h.elim
 | n+1,B=>by
  have p:=wP n (by omega);intro C D v t j a M w s e f g l i d;have c:=j.go l;have o:=bB w (A0 e)
  match t,c,a,d with
  | .lit (.int k m),c,a,d=>exact hZ M w s e f g v _ n _ i c a (.inl ⟨_,_,rfl⟩) rfl
  | .lit (.bool b),c,a,d=>exact hZ M w s e f g v _ n _ i c a (.inr ⟨_,rfl⟩) rfl
  | .lit (.string x),c,a,d =>
   obtain rfl:=(show v=_ from c)
   exact oY M w s e f g x _ i a d rfl
  | .agg y,c,a,d =>obtain⟨q,r,rfl,u,z,A⟩:=c.RQ;exact jG M w s e f g q r _ _ u (XI n (by omega) p (zY n p) M _ s e f g q r y (i.below o) (Sl.AQ (Stp.AA o) u) (C9.below z o) a A d)
theorem iQ(n:Nat)(t:Tr):(Pl.BZ n t).isSome=Pl.GY n t:=by
 have b:(fun x=>(AD n x).isSome)=C4 n:=funext (Pl.DJ n);unfold Pl.BZ;split
 ·rename_i h r;show _=if h=Pl.CK then Pl.OI (C4 n) r else C4 (n+1) _;split
  ·rw [Pl.JZ,b]
  ·exact Pl.DJ _ _
 ·rename_i a;rw [Pl.DJ];unfold Pl.GY;split
  ·rename_i h r;exact absurd rfl (a h r)
  ·rfl
theorem mK(n:Nat)(r:List Tr):Pl.BZ n (.agg (.lit (.string Pl.CK)::r))=Pl.E6 .define (AD n) r:=by simp [Pl.BZ]
theorem pG(r:List Tr):eG (.lit (.string Pl.CK)::r)=[100,101,102,105,110,101]:=rfl
theorem rL{b:List Tr}(h:¬eG b=[100,101,102,105,110,101]):Pl.BZ n (.agg b)=AD (n+1) (.agg b):=by
 unfold Pl.BZ;split
 ·rename_i c r a;rw [DataW.agg.injEq] at a;subst a;rw [if_neg];rintro rfl;exact h (pG r)
 ·rfl
theorem rM{t:Tr}(h:¬∃a,t=.agg a):Pl.BZ n t=AD (n+1) t:=by
 unfold Pl.BZ;split
 ·exact absurd ⟨_,rfl⟩ h
 ·rfl
theorem YC{b:List Tr}(h:eG b=[100,101,102,105,110,101]):∃r,b=.lit (.string Pl.CK)::r:=by
 unfold eG at h
 cases a:Pl.BJ b with
 | none=>rw [a] at h;simp at h
 | some k =>
  rw [a] at h;dsimp only at h;subst h;unfold Pl.BJ at a;split at a
  ·split at a
   ·obtain rfl:=i_ a;exact⟨_,rfl⟩
   ·simp at a
  ·simp at a
def R3(M:Nat->Prop)(w:World)(s:Sg)(tb mb:Nat)(ps:List (PV×PV))(bs:AE)(v ev:Value)(w':World):Prop :=
 w.grownBy w' (some mb)/\∃t,DK s t/\t.ns.length<=s.ns.length+300 /\
  ((∃c es,Pl.check bs=c/\0<c/\c<=5/\ev=aY es c/\t.pb=s.pb/\BM M w' t tb mb ps) \/
   (∃f,Pl.check bs=0/\Pl.BQ bs=some f/\ev=.nilIface/\BM M w' t tb mb (ps++(Pl.settle f ps.length).2)/\CP M w' t v (Pl.settle f ps.length).1))
theorem R3.Z8{s:Sg}{ps:List (PV×PV)}{c:AE}{m:Nat}{t:Tr}{o:FR}{v ev:Value}(h:LM M w s tb mb ps o z v ev w')(i:o=EF (Pl.BZ m t) ps.length)(p:z<=300)(b:Pl.check c=if Pl.GY m t=true then 0 else 5)(d:Pl.BQ c=Pl.BZ m t):R3 M w s tb mb ps c v ev w':=by
 obtain⟨j,u,k,q,⟨r,a,rfl,e,g⟩ | ⟨a,e,g,n,rfl⟩⟩:=h
 ·refine⟨j,u,k,by omega,.inr ?_⟩;rw [i] at a;unfold EF at a;obtain⟨f,l,rfl⟩:=m_ a;refine⟨f,?_,d.trans l,rfl,e,g⟩;rw [b,<-iQ,l];rfl
 ·refine⟨j,u,k,by omega,.inl ⟨5,n,?_,by omega,by omega,rfl,e,g⟩⟩;rw [i] at a;unfold EF at a;rw [b,<-iQ,Option.map_eq_none_iff.1 a];rfl
theorem xY{a:AE}{l:List (List UInt8)}{p:Pl.PR}(h:bF a=some l)(hp:Pl.pd l.length l=some p):Pl.BQ a=Pl.BZ (l.length-1) p.t:=by unfold Pl.BQ;rw [(dR h).1];dsimp only;rw [hp]
theorem pU{bs:List UInt8}(h:Pl.check bs≠1):bs.length<=300:=by
 by_cases a:300<bs.length
 ·exact absurd (kX a) h
 ·omega
theorem XC(b:ByteArray)(M:Nat->Prop)(w:World)(s:Sg)(tb mb:Nat)(ps:List (PV×PV))(hR:BM M w s tb mb ps)(X:GE w)(hz:s.ns.length+300<=BS) :Calls prog 34 #[.string b,.pointer (some ⟨tb,0,none⟩)] w fun e o=>∃v j,e=.returned (.tuple #[v,j])/\R3 M w s tb mb ps b.data.toList v j o:=by
 have ae:=Tryz.EO;have af:=Tryz.E7;have ag:=Tryz.FN;have am:=Tryz.ET;have HR:=h_ hR;have HZ:=h_ hz;clear hR hz;go_enter func34,ntmps34;go_wp2_with fail;refine(XO b w X).mono ?_;rintro e i ⟨Y,N⟩;have q:=h_ Y;clear Y X;rcases N with⟨c,es,hc,ah,ai,rfl⟩ | ⟨l,p,v,hs,hl,hp,Z,E,rfl,z⟩
 ·have HC:=h_ hc;clear hc;unfold aY;go_wp2_with fail;go_ret2;exact⟨_,_,rfl,aI q,s,DK.refl _,Nat.le_add_right _ _,.inl ⟨c,_,HC,ah,ai,rfl,rfl,HR.below q⟩⟩
 ·have O:=xY hs hp;have P:=Pl.NP _ _ _ hp
  have aa:∀t∈l,t.length<=300:=fun t ht=>by
   have Q:Pl.check b.data.toList≠1:=by rw [E];split<;>simp
   have V:=pU Q;have h3:=(Pl.F2 (dR hs).1).2 t ht;omega
  have f:=P.CG Z aa;have J:=P.words;obtain⟨n,hn⟩:=uJ hp;rw [hn] at z f J;rw [hn,Nat.add_sub_cancel] at E O;have aj:n+1<=300:=by omega
  have a:AN (fun k=>¬M k) (n+1) i v p.t:=AN.mono (fun k _ R hm=>by have:=HR.mlt k hm;omega) _ _ _ z;have A:Hid (Pl.check b.data.toList=(if Pl.GY n p.t=true then 0 else 5)/\Pl.BQ b.data.toList=Pl.BZ n p.t):=⟨E,O⟩
  have F:Hid (Below w.heap.size w (i.alloc (A0 tb))):=q.alloc q.size _;have m:Below i.heap.size i (i.alloc (A0 tb)):=bB _ _;have B:BM M (i.alloc (A0 tb)) s tb mb ps:=HR.below F;have ab:s.ns.length+BB (n+1) p.t<=BS:=by have:=HZ.out;omega
  have S:BB (n+1) p.t<=300:=by omega
  have d:(Pl.BZ n p.t=AD (n+1) p.t)->Hid (Calls prog 43 #[.agg #[.pointer (some ⟨tb,0,none⟩)],v] (i.alloc (A0 tb)) fun e o=>∃v j,e=.returned (.tuple #[v,j])/\Hid (R3 M w s tb mb ps b.data.toList v j o)):=fun ht=>show Calls _ _ _ _ _ from
   (wP (n+1) (by omega) M i v p.t a f M (i.alloc (A0 tb)) s tb mb ps (Stp.AA m) B ab).mono (fun e o h=>by
    obtain⟨v,j,Q,V⟩:=h.one
    exact⟨v,j,Q,R3.Z8 (V.from_ F) (by rw [ht]) S A.1 A.2⟩)
  have cw:(i.alloc (A0 tb)).cell? ⟨i.heap.size,0,none⟩=some (.pointer (some ⟨tb,0,none⟩)):=aA (heap_alloc_new i (A0 tb)) 0;clear E O hp hs hn hl P aa z J Z;by_cases G:∃ts,p.t=.agg ts
  ·obtain⟨ts,H⟩:=G;rw [H] at a d f ab S;obtain⟨sl,vs,rfl,W,hA,ak⟩:=a.RQ;have C:=pF (tb:=tb) W hA;by_cases R:eG ts=[100,101,102,105,110,101]
   ·obtain⟨r,rfl⟩:=YC R
    match vs,hA.1 with
    | u::K,_ =>
     rw [R] at C;obtain⟨g,T,D,rfl,al,hg,c0,_⟩:=(Sl.C7 W).cell0;have HK:=(show Hid (∀L c,L=K.length+1->c=D->Calls prog 41 #[.slice (some ⟨g,T,none⟩) L c] (i.alloc (A0 tb)) fun e o=>e=.returned (.string ⟨([100,101,102,105,110,101]:List UInt8).toArray⟩)/\i.alloc (A0 tb)=o) from by rintro _ _ rfl rfl;exact C)
     have ac:CD M (i.alloc (A0 tb)).drew (.slice (some ⟨g,T,none⟩) (K.length+1) D) (u::K):=Sl.AQ (Stp.AA (m.drew)) W;have ad:(r.map (BB n)).sum<=BB (n+1) (.agg (.lit (.string Pl.CK)::r)):=by show _<=((.lit (.string Pl.CK)::r).map (BB n)).sum;simp
     have HD:Hid (∀(ao:Option Addr)(L c:Nat),L=K.length->K.length<=c->(K.length≠0->ao=some ⟨g,T+1,none⟩)->Calls prog 42 #[.agg #[.pointer (some ⟨tb,0,none⟩)],.slice ao L c] (i.alloc (A0 tb)).drew fun e o=>∃v j,e=.returned (.tuple #[v,j])/\Hid (R3 M w s tb mb ps b.data.toList v j o)):=fun ao L c h0 Q V=>by
      subst h0
      exact(yW n (wP n (by omega)) M _ s tb mb ps _ K r (B.below r_.drew) (Sl.J4 ac K.length rfl ao c Q V) (C9.below (C9.tail hA) m.drew) (fun x hx=>f x (List.mem_cons_of_mem _ hx)) (by omega) _ rfl).mono (fun e o h=>by
       obtain⟨v,j,Q,V⟩:=h.one;refine⟨v,j,Q,R3.Z8 (V.from_ F.drew) ?_ (t_ ad S) A.1 A.2⟩
       rw [H,mK])
     clear C R hA W a d H ac B m f;obtain⟨c,rfl⟩:∃c,D=c+1:=⟨D-1,by omega⟩
     rcases c with _ | c
     all_goals clear A ae af ag HR HZ q F
     all_goals
     go_wp2_with (go_at_call 41;refine(HK _ _ (by omega) (by omega)).mono ?_;rintro e o ⟨rfl,rfl⟩)
     go_region_with (go_at_call 42;refine(HD _ _ _ (by omega) (by omega) (by intro hh;first | rfl | (exfalso;omega))).mono ?_;rintro e w2 ⟨v,j,rfl,I⟩)
     all_goals
      go_wp2_with fail
      go_ret2;exact⟨_,_,rfl,I⟩
   ·have HF:=d (rL R);have an:(eG ts==[100,101,102,105,110,101])=false:=by simpa using R
    obtain⟨ao,D,rfl,_⟩:=Sl.C7 W;have HK:=h_ C;generalize eG ts=kk at *;clear C R hA W a d H B m f;go_wp2_with (go_at_call 41;refine(Calls.mono HK) ?_;rintro e o ⟨rfl,rfl⟩);refine Calls.mono HF ?_;rintro e w3 ⟨v9,U,rfl,I⟩;go_wp2_with fail;go_ret2;exact⟨_,_,rfl,I⟩
  ·have HF:=d (rM G);obtain⟨y,hy⟩:=AN.KR a G;clear a G d B m f;rcases hy with rfl | rfl | rfl
   ·go_wp2_with fail
    refine Calls.mono HF ?_;rintro e w3 ⟨v9,U,rfl,I⟩;go_wp2_with fail;go_ret2;exact⟨_,_,rfl,I⟩
   ·go_wp2_with fail
    refine Calls.mono HF ?_;rintro e w3 ⟨v9,U,rfl,I⟩;go_wp2_with fail;go_ret2;exact⟨_,_,rfl,I⟩
   ·go_wp2_with fail
    refine Calls.mono HF ?_;rintro e w3 ⟨v9,U,rfl,I⟩;go_wp2_with fail;go_ret2;exact⟨_,_,rfl,I⟩
end
end Go.Proofs.YtieooapcfpimlaaGreatDoor
