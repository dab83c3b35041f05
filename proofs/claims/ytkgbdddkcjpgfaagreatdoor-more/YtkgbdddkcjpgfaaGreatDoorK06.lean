import Derived.Test.YtkgbdddkcjpgfaaGreatDoorK05
import Derived.Test.YtkgbdddkcjpgfaaGreatDoorK01
import Derived.Deep.AppendLies
namespace Go.Proofs.YtkgbdddkcjpgfaaGreatDoor
set_option maxHeartbeats 2000000
set_option maxRecDepth 100000
open Go.Proofs.Tryz
open Pl (inW)
section
open Go.RowKit
def cE(t:List UInt8):Int:=if t=[40] then 0 else if t=[41] then 1 else if t=[39] then 2 else if t=[35,116]\/t=[35,102] then 3 else if Pl.isNum t then 4 else 5
def FTok(w:World)(r:Option (List UInt8))(e:Ending)(w':World):Prop :=
 Below w.heap.size w w'/\∃(k:Int)(t:ByteArray)(b:Bool),e=.returned (.tuple #[.agg #[.int .i64 k,.string t],.bool b]) /\
  ((r=none/\b=false)\/(b=true/\∃l,r=some l/\t.data.toList=l/\k=cE l))
def cF(r:List UInt8):Option (List UInt8) :=
 match r with
 | []=>none
 | d::_=>if(d==116||d==102)=true then some [35,d] else none
theorem ext2(s:ByteArray)(k:Nat)(l:List UInt8)(h:s.data.toList.take k=l):(s.extract 0 k).data.toList=l:=by rw [eP];simpa using h
theorem nH(s:ByteArray)(w:World)(hs:s.size<=1000)(r:List UInt8)(hr:s.data.toList=35::r) :Calls prog 184 #[.string s] w fun e w'=>FTok w (cF r) e w':=by
 have hl:s.data.toList.length=s.size:=by simp
 cases r with
 | nil =>
  rw [hr] at hl;have h2:¬(2:Int)<=(s.size:Int):=by simp at hl;omega
  clear hl hr;go_enter func184,ntmps184;go_wp2;exact bodyPost_ret (v:=.tuple #[.agg #[.int .i64 0,.string (⟨#[]⟩:ByteArray)],.bool false]) (by simp [results,Tryz.results184,go_sem]) rfl ⟨(Below.refl _ _).alloc (Nat.le_refl _) _,_,_,_,rfl,.inl ⟨rfl,rfl⟩⟩
 | cons d q =>
  rw [hr] at hl;have h2:2<=s.size:=by simp at hl;omega
  have ht:s.data.toList.take 2=[35,d]:=by rw [hr];rfl
  by_cases hd:d=116
  ·subst hd;have q1:((s.extract 0 2).toList==[35,116])=true:=by rw [dB,ht];rfl
   have HT:Hid (_=_):=ext2 s 2 _ ht;clear hl hr ht;go_enter func184,ntmps184;go_wp2;exact bodyPost_ret (v:=.tuple #[.agg #[.int .i64 3,.string (s.extract 0 2)],.bool true]) (by simp [results,Tryz.results184,go_sem]) rfl ⟨(Below.refl _ _).alloc (Nat.le_refl _) _,_,_,_,rfl,.inr ⟨rfl,_,rfl,HT.out,rfl⟩⟩
  ·have q1:((s.extract 0 2).toList==[35,116])=false:=by rw [dB,ht];simpa using hd
   by_cases hd2:d=102
   ·subst hd2;have q2:((s.extract 0 2).toList==[35,102])=true:=by rw [dB,ht];rfl
    have HT:Hid (_=_):=ext2 s 2 _ ht;clear hl hr ht hd;go_enter func184,ntmps184;go_wp2;exact bodyPost_ret (v:=.tuple #[.agg #[.int .i64 3,.string (s.extract 0 2)],.bool true]) (by simp [results,Tryz.results184,go_sem]) rfl ⟨(Below.refl _ _).alloc (Nat.le_refl _) _,_,_,_,rfl,.inr ⟨rfl,_,rfl,HT.out,rfl⟩⟩
   ·have q2:((s.extract 0 2).toList==[35,102])=false:=by rw [dB,ht];simpa using hd2
    have hdd:(d==116||d==102)=false:=by simp [hd,hd2]
    have HN:Hid (cF (d::q)=none):=show cF _=none from by unfold cF;simp [hdd]
    clear hl hr ht hd hd2 hdd;go_enter func184,ntmps184;go_wp2;exact bodyPost_ret (v:=.tuple #[.agg #[.int .i64 0,.string (⟨#[]⟩:ByteArray)],.bool false]) (by simp [results,Tryz.results184,go_sem]) rfl ⟨(Below.refl _ _).alloc (Nat.le_refl _) _,_,_,_,rfl,.inl ⟨HN.out,rfl⟩⟩
theorem mH(l:List UInt8)(h:∀c∈l,inW c=true):¬l=[40]/\¬l=[41]/\¬l=[39]/\¬(l=[35,116]\/l=[35,102]):=by
 refine⟨?_,?_,?_,?_⟩
 ·rintro rfl;exact absurd (h 40 (by simp)) (by decide)
 ·rintro rfl;exact absurd (h 41 (by simp)) (by decide)
 ·rintro rfl;exact absurd (h 39 (by simp)) (by decide)
 ·rintro(rfl | rfl)<;>exact absurd (h 35 (by simp)) (by decide)
theorem gB(p:UInt8->Bool):∀(l:List UInt8)(c:UInt8),c∈l.takeWhile p->p c=true
 | [],_,h=>by simp at h
 | x::r,c,h=>by
  by_cases hx:p x=true
  ·rw [List.takeWhile_cons,if_pos hx] at h;rcases List.mem_cons.1 h with rfl | h
   ·exact hx
   ·exact gB p r c h
  ·rw [List.takeWhile_cons,if_neg hx] at h;simp at h
def gX(l:List UInt8):Bool:=!l.isEmpty&&(Pl.isNum l||Pl.noDig l)
def bZ(l:List UInt8):Option (List UInt8):=if gX l then some l else none
theorem gE{l:List UInt8}(h:∀c∈l,inW c=true):cE l=if Pl.isNum l then 4 else 5:=by obtain⟨h1,h2,h3,h4⟩:=mH l h;unfold cE;rw [if_neg h1,if_neg h2,if_neg h3,if_neg h4]
theorem cD(s:ByteArray)(w:World)(hs:s.size<=1000)(b:Bool)(h:eF s.data.toList=b):Calls prog 201 #[.string s] w fun e w'=>e=.returned (.bool b)/\w=w':=by subst h;exact sI s w hs
theorem dA(s:ByteArray)(w:World)(hs:s.size<=1000)(b:Bool)(h:(Pl.noDig s.data.toList&&!s.data.toList.isEmpty)=b):Calls prog 202 #[.string s] w fun e w'=>e=.returned (.bool b)/\w=w':=by subst h;exact yT s w hs
theorem oZ(s:ByteArray)(w:World)(hs:s.size<=1000) :Calls prog 185 #[.string s] w fun e w'=>FTok w (bZ (s.data.toList.takeWhile inW)) e w':=by
 go_enter func185,ntmps185
 go_wp2_with fail
 go_loopw [4] (fun i wq=>∃k:Nat,k<=s.size/\i=.int .i64 k/\wq=w.alloc (.cells #[.int .i64 0,.string ⟨#[]⟩] 288)/\Hid (∀j (h:j<s.data.toList.length),j<k->inW s.data.toList[j]=true)) (fun i _=>s.size-(intOf i).toNat)
 case atStart=>exact⟨0,Nat.zero_le _,rfl,rfl,fun j _ hj=>by omega⟩
 case round =>
  obtain⟨k,hk,rfl,rfl,HA⟩:=hrel;have hwl:w.heap.size<(w.alloc (.cells #[.int .i64 0,.string ⟨#[]⟩] 288)).heap.size:=by simp
  by_cases hc:∃hlt:k<s.size,inW (s[k]'hlt)=true
  ·obtain⟨hlt,hw⟩:=hc;have hg:=bE s k hlt
   have HA2:Hid (∀j (h:j<s.data.toList.length),j<k+1->inW s.data.toList[j]=true):=by
    intro j h hj;by_cases e:j=k
    ·subst e;rw [hg];exact hw
    ·exact HA.out j h (by omega)
   clear hg HA;go_wp2_with (go_at_call 200;refine(cO (s[k]'hlt) _).mono ?_;rintro e w' ⟨rfl,rfl⟩);exact⟨⟨k+1,by omega,by go_num,trivial,HA2⟩,by simp [intOf];omega⟩
  ·have htk:s.data.toList.takeWhile inW=s.data.toList.take k:=(Pl.take_of_all inW s.data.toList k (by simpa using hk) (fun j h hj=>HA.out j h hj) (fun h=>by
    have hlt:k<s.size:=by simpa using h
    rw [bE s k hlt];by_cases hw:inW (s[k]'hlt)=true
    ·exact absurd ⟨hlt,hw⟩ hc
    ·simpa using hw)).1
   have HW:Hid (∀c∈s.data.toList.take k,inW c=true):=by rw [<- htk];exact gB _ _
   have HK:Hid (_=_):=htk;have HX:Hid ((s.extract 0 k).data.toList=s.data.toList.take k):=ext2 s k _ rfl;have hxz:(s.extract 0 k).size<=1000:=by simp;omega
   clear htk HA;by_cases hlt:k<s.size
   ·have hw0:inW (s[k]'hlt)=false:=by
     by_cases hw:inW (s[k]'hlt)=true
     ·exact absurd ⟨hlt,hw⟩ hc
     ·simpa using hw
    clear hc;by_cases hn0:eF (s.extract 0 k).data.toList=true
    ·have HN:Hid (eF (s.data.toList.take k)=true):=show eF _=true from by rw [<- HX.out];exact hn0
     have hn:Hid (_=true):=hn0;clear hn0;go_wp2_with (first | (go_at_call 200;refine(cO (s[k]'hlt) _).mono ?_;rintro e w' ⟨rfl,rfl⟩) | (go_at_call 201;refine(cD (s.extract 0 k) _ hxz true hn.out).mono ?_;rintro e w' ⟨rfl,rfl⟩) | (go_at_call 202;refine(dA (s.extract 0 k) _ hxz true hm.out).mono ?_;rintro e w' ⟨rfl,rfl⟩));refine bodyPost_ret (v:=.tuple #[.agg #[.int .i64 4,.string (s.extract 0 k)],.bool true]) (by simp [results,Tryz.results185,go_sem]) rfl ⟨(Below.refl _ _).alloc (Nat.le_refl _) _,_,_,_,rfl,?_⟩;rw [HK.out,bZ];have h1:=HN.out;simp only [eF,Bool.and_eq_true] at h1;rw [if_pos (by simp only [gX,h1.1,h1.2];rfl)];exact .inr ⟨rfl,_,rfl,HX.out,by rw [gE HW.out,if_pos h1.2]⟩
    ·have hn1:eF (s.extract 0 k).data.toList=false:=by simpa only [Bool.not_eq_true] using hn0
     have HN:Hid (eF (s.data.toList.take k)=false):=show eF _=false from by rw [<- HX.out];exact hn1
     have hn:Hid (_=false):=hn1;clear hn0 hn1;by_cases hm0:(Pl.noDig (s.extract 0 k).data.toList&&!(s.extract 0 k).data.toList.isEmpty)=true
     ·have HM:Hid ((Pl.noDig (s.data.toList.take k)&&!(s.data.toList.take k).isEmpty)=true):=show _=true from by rw [<- HX.out];exact hm0
      have hm:Hid (_=true):=hm0;clear hm0;go_wp2_with (first | (go_at_call 200;refine(cO (s[k]'hlt) _).mono ?_;rintro e w' ⟨rfl,rfl⟩) | (go_at_call 201;refine(cD (s.extract 0 k) _ hxz false hn.out).mono ?_;rintro e w' ⟨rfl,rfl⟩) | (go_at_call 202;refine(dA (s.extract 0 k) _ hxz true hm.out).mono ?_;rintro e w' ⟨rfl,rfl⟩));refine bodyPost_ret (v:=.tuple #[.agg #[.int .i64 5,.string (s.extract 0 k)],.bool true]) (by simp [results,Tryz.results185,go_sem]) rfl ⟨(Below.refl _ _).alloc (Nat.le_refl _) _,_,_,_,rfl,?_⟩;rw [HK.out,bZ];have h1:=HM.out;simp only [Bool.and_eq_true] at h1;have h2:Pl.isNum (s.data.toList.take k)=false:=by have:=HN.out;simp only [eF,h1.2,Bool.true_and] at this;exact this
      rw [if_pos (by simp only [gX,h1.1,h1.2,Bool.or_true];rfl)];exact .inr ⟨rfl,_,rfl,HX.out,by rw [gE HW.out,if_neg (by simp [h2])]⟩
     ·have hm1:(Pl.noDig (s.extract 0 k).data.toList&&!(s.extract 0 k).data.toList.isEmpty)=false:=by simpa only [Bool.not_eq_true] using hm0
      have HM:Hid ((Pl.noDig (s.data.toList.take k)&&!(s.data.toList.take k).isEmpty)=false):=show _=false from by rw [<- HX.out];exact hm1
      have hm:Hid (_=false):=hm1;clear hm0 hm1;go_wp2_with (first | (go_at_call 200;refine(cO (s[k]'hlt) _).mono ?_;rintro e w' ⟨rfl,rfl⟩) | (go_at_call 201;refine(cD (s.extract 0 k) _ hxz false hn.out).mono ?_;rintro e w' ⟨rfl,rfl⟩) | (go_at_call 202;refine(dA (s.extract 0 k) _ hxz false hm.out).mono ?_;rintro e w' ⟨rfl,rfl⟩));refine bodyPost_ret (v:=.tuple #[.agg #[.int .i64 0,.string ⟨#[]⟩],.bool false]) (by simp [results,Tryz.results185,go_sem]) rfl ⟨(Below.refl _ _).alloc (Nat.le_refl _) _,_,_,_,rfl,?_⟩;rw [HK.out,bZ];have h1:=HM.out;have h2:=HN.out
      have h3:gX (s.data.toList.take k)=false:=by
       simp only [gX];simp only [eF] at h2
       cases h:(s.data.toList.take k).isEmpty
       ·rw [h] at h1 h2;simp at h1 h2;simp [h1,h2]
       ·rfl
      rw [if_neg (by simp [h3])];exact .inl ⟨rfl,rfl⟩
   ·clear hc;by_cases hn0:eF (s.extract 0 k).data.toList=true
    ·have HN:Hid (eF (s.data.toList.take k)=true):=show eF _=true from by rw [<- HX.out];exact hn0
     have hn:Hid (_=true):=hn0;clear hn0;go_wp2_with (first | (go_at_call 200;refine(cO (s[k]'hlt) _).mono ?_;rintro e w' ⟨rfl,rfl⟩) | (go_at_call 201;refine(cD (s.extract 0 k) _ hxz true hn.out).mono ?_;rintro e w' ⟨rfl,rfl⟩) | (go_at_call 202;refine(dA (s.extract 0 k) _ hxz true hm.out).mono ?_;rintro e w' ⟨rfl,rfl⟩));refine bodyPost_ret (v:=.tuple #[.agg #[.int .i64 4,.string (s.extract 0 k)],.bool true]) (by simp [results,Tryz.results185,go_sem]) rfl ⟨(Below.refl _ _).alloc (Nat.le_refl _) _,_,_,_,rfl,?_⟩;rw [HK.out,bZ];have h1:=HN.out;simp only [eF,Bool.and_eq_true] at h1;rw [if_pos (by simp only [gX,h1.1,h1.2];rfl)];exact .inr ⟨rfl,_,rfl,HX.out,by rw [gE HW.out,if_pos h1.2]⟩
    ·have hn1:eF (s.extract 0 k).data.toList=false:=by simpa only [Bool.not_eq_true] using hn0
     have HN:Hid (eF (s.data.toList.take k)=false):=show eF _=false from by rw [<- HX.out];exact hn1
     have hn:Hid (_=false):=hn1;clear hn0 hn1;by_cases hm0:(Pl.noDig (s.extract 0 k).data.toList&&!(s.extract 0 k).data.toList.isEmpty)=true
     ·have HM:Hid ((Pl.noDig (s.data.toList.take k)&&!(s.data.toList.take k).isEmpty)=true):=show _=true from by rw [<- HX.out];exact hm0
      have hm:Hid (_=true):=hm0;clear hm0;go_wp2_with (first | (go_at_call 200;refine(cO (s[k]'hlt) _).mono ?_;rintro e w' ⟨rfl,rfl⟩) | (go_at_call 201;refine(cD (s.extract 0 k) _ hxz false hn.out).mono ?_;rintro e w' ⟨rfl,rfl⟩) | (go_at_call 202;refine(dA (s.extract 0 k) _ hxz true hm.out).mono ?_;rintro e w' ⟨rfl,rfl⟩));refine bodyPost_ret (v:=.tuple #[.agg #[.int .i64 5,.string (s.extract 0 k)],.bool true]) (by simp [results,Tryz.results185,go_sem]) rfl ⟨(Below.refl _ _).alloc (Nat.le_refl _) _,_,_,_,rfl,?_⟩;rw [HK.out,bZ];have h1:=HM.out;simp only [Bool.and_eq_true] at h1;have h2:Pl.isNum (s.data.toList.take k)=false:=by have:=HN.out;simp only [eF,h1.2,Bool.true_and] at this;exact this
      rw [if_pos (by simp only [gX,h1.1,h1.2,Bool.or_true];rfl)];exact .inr ⟨rfl,_,rfl,HX.out,by rw [gE HW.out,if_neg (by simp [h2])]⟩
     ·have hm1:(Pl.noDig (s.extract 0 k).data.toList&&!(s.extract 0 k).data.toList.isEmpty)=false:=by simpa only [Bool.not_eq_true] using hm0
      have HM:Hid ((Pl.noDig (s.data.toList.take k)&&!(s.data.toList.take k).isEmpty)=false):=show _=false from by rw [<- HX.out];exact hm1
      have hm:Hid (_=false):=hm1;clear hm0 hm1;go_wp2_with (first | (go_at_call 200;refine(cO (s[k]'hlt) _).mono ?_;rintro e w' ⟨rfl,rfl⟩) | (go_at_call 201;refine(cD (s.extract 0 k) _ hxz false hn.out).mono ?_;rintro e w' ⟨rfl,rfl⟩) | (go_at_call 202;refine(dA (s.extract 0 k) _ hxz false hm.out).mono ?_;rintro e w' ⟨rfl,rfl⟩));refine bodyPost_ret (v:=.tuple #[.agg #[.int .i64 0,.string ⟨#[]⟩],.bool false]) (by simp [results,Tryz.results185,go_sem]) rfl ⟨(Below.refl _ _).alloc (Nat.le_refl _) _,_,_,_,rfl,?_⟩;rw [HK.out,bZ];have h1:=HM.out;have h2:=HN.out
      have h3:gX (s.data.toList.take k)=false:=by
       simp only [gX];simp only [eF] at h2
       cases h:(s.data.toList.take k).isEmpty
       ·rw [h] at h1 h2;simp at h1 h2;simp [h1,h2]
       ·rfl
      rw [if_neg (by simp [h3])];exact .inl ⟨rfl,rfl⟩
def pY(bs:List UInt8):Option (List UInt8) :=
 match bs with
 | []=>none
 | c::r=>if c=40 then some [40] else if c=41 then some [41] else if c=39 then some [39] else if c=35 then cF r else bZ (bs.takeWhile inW)
theorem nI(s:ByteArray)(w:World)(hs:s.size<=1000)(c:UInt8)(r:List UInt8)(hr:s.data.toList=c::r) :Calls prog 147 #[.string s] w fun e w'=>FTok w (pY (c::r)) e w':=by
 have hsz:0<s.size:=by
  have:s.data.toList.length=s.size:=by simp
  rw [hr] at this;simp at this;omega
 have hg:s[0]'hsz=c:=by rw [<- bE s 0 hsz];simp [hr]
 by_cases h40:c=40
 ·subst h40;have q1:(((s[0]'hsz).toNat:Int)==40)=true:=by rw [b40,hg];rfl
  clear hg;have HT:=(show Hid ((s.extract 0 1).data.toList=[40]) from ext2 s 1 _ (by rw [hr];rfl))
  clear hr;go_enter func147,ntmps147;go_wp2_with fail;exact bodyPost_ret (v:=.tuple #[.agg #[.int .i64 0,.string (s.extract 0 1)],.bool true]) (by simp [results,Tryz.results147,go_sem]) rfl ⟨(Below.refl _ _).alloc (Nat.le_refl _) _,_,_,_,rfl,.inr ⟨rfl,_,rfl,HT.out,rfl⟩⟩
 have q1:(((s[0]'hsz).toNat:Int)==40)=false:=by rw [b40,hg];simpa using h40
 by_cases h41:c=41
 ·subst h41;have q2:(((s[0]'hsz).toNat:Int)==41)=true:=by rw [b41,hg];rfl
  clear hg h40;have HT:=(show Hid ((s.extract 0 1).data.toList=[41]) from ext2 s 1 _ (by rw [hr];rfl))
  clear hr;go_enter func147,ntmps147;go_wp2_with fail;exact bodyPost_ret (v:=.tuple #[.agg #[.int .i64 1,.string (s.extract 0 1)],.bool true]) (by simp [results,Tryz.results147,go_sem]) rfl ⟨(Below.refl _ _).alloc (Nat.le_refl _) _,_,_,_,rfl,.inr ⟨rfl,_,rfl,HT.out,rfl⟩⟩
 have q2:(((s[0]'hsz).toNat:Int)==41)=false:=by rw [b41,hg];simpa using h41
 by_cases h39:c=39
 ·subst h39;have q3:(((s[0]'hsz).toNat:Int)==39)=true:=by rw [b39,hg];rfl
  clear hg h40 h41;have HT:=(show Hid ((s.extract 0 1).data.toList=[39]) from ext2 s 1 _ (by rw [hr];rfl))
  clear hr;go_enter func147,ntmps147;go_wp2_with fail;exact bodyPost_ret (v:=.tuple #[.agg #[.int .i64 2,.string (s.extract 0 1)],.bool true]) (by simp [results,Tryz.results147,go_sem]) rfl ⟨(Below.refl _ _).alloc (Nat.le_refl _) _,_,_,_,rfl,.inr ⟨rfl,_,rfl,HT.out,rfl⟩⟩
 have q3:(((s[0]'hsz).toNat:Int)==39)=false:=by rw [b39,hg];simpa using h39
 by_cases h35:c=35
 ·subst h35;have q4:(((s[0]'hsz).toNat:Int)==35)=true:=by rw [b35,hg];rfl
  have HR:Hid (_=_):=hr;clear hg h40 h41 h39 hr;go_enter func147,ntmps147;go_wp2_with fail;refine(nH s _ hs r HR.out).mono ?_;rintro e w1 ⟨hB,k1,t1,b1,rfl,hc⟩;have HB:Hid (Below w.heap.size w w1):=((Below.refl _ w).alloc (Nat.le_refl _) _).trans (hB.mono (by simp));have h0:w1.heap[w.heap.size]?=some (.cells #[.int .i64 0,.string ⟨#[]⟩] 288 (0,0)):=(hB.block _ (by simp)).trans (heap_alloc_new _ _);have c0:=aA h0 0;have c1:=aA h0 1;have f0:=aF h0 0;have f1:=aF h0 1;have hw1:w.heap.size<w1.heap.size:=aB h0;have HC:Hid _:=hc;clear hB hc h0;go_wp2_with fail;refine bodyPost_ret (v:=.tuple #[.agg #[.int .i64 k1,.string t1],.bool b1]) (by simp [results,Tryz.results147,go_sem,c0,c1]) rfl ⟨(HB.out.setCell (Nat.le_refl _) _).setCell (Nat.le_refl _) _,_,_,_,rfl,HC.out⟩
 ·have q4:(((s[0]'hsz).toNat:Int)==35)=false:=by rw [b35,hg];simpa using h35
  have HS:Hid (pY (c::r)=bZ ((c::r).takeWhile inW)):=show pY _=_ from by unfold pY;dsimp only;rw [if_neg h40,if_neg h41,if_neg h39,if_neg h35]
  have HR:Hid (_=_):=hr;clear hg h40 h41 h39 h35 hr;go_enter func147,ntmps147;go_wp2_with fail;refine(oZ s _ hs).mono ?_;rw [HR.out,<-HS.out];rintro e w1 ⟨hB,k1,t1,b1,rfl,hc⟩;have HB:Hid (Below w.heap.size w w1):=((Below.refl _ w).alloc (Nat.le_refl _) _).trans (hB.mono (by simp));have h0:w1.heap[w.heap.size]?=some (.cells #[.int .i64 0,.string ⟨#[]⟩] 288 (0,0)):=(hB.block _ (by simp)).trans (heap_alloc_new _ _);have c0:=aA h0 0;have c1:=aA h0 1;have f0:=aF h0 0;have f1:=aF h0 1;have hw1:w.heap.size<w1.heap.size:=aB h0;have HC:Hid _:=hc;clear hB hc h0;go_wp2_with fail;refine bodyPost_ret (v:=.tuple #[.agg #[.int .i64 k1,.string t1],.bool b1]) (by simp [results,Tryz.results147,go_sem,c0,c1]) rfl ⟨(HB.out.setCell (Nat.le_refl _) _).setCell (Nat.le_refl _) _,_,_,_,rfl,HC.out⟩
def aY(s:ByteArray)(code:Int):Value:=.iface 251 (.agg #[.string s,.iface 128 (.int .i64 code)])
theorem bJ(s:ByteArray)(code:Int)(w:World):Calls prog 78 #[.string s,.int .i64 code] w fun e w'=>e=.returned (aY s code)/\w=w':=by
 go_enter func78,ntmps78
 go_wp2
 go_ret;exact⟨rfl,rfl⟩
end
end Go.Proofs.YtkgbdddkcjpgfaaGreatDoor
