import Derived.Lib.Bytealg
import Derived.Test.YtkgbdddkcjpgfaaGreatDoorK01
import Derived.Lib.Strings
import Derived.Lib.IndexBytes
import Derived.Test.YtkgbdddkcjpgfaaGreatDoorK04
namespace Go.Proofs.YtkgbdddkcjpgfaaGreatDoor
set_option maxHeartbeats 1000000
set_option maxRecDepth 100000
open Go.Proofs.Tryz
open Pl (inW isDig)
section
open Go.RowKit
theorem bX(c:UInt8)(w:World) :Calls prog 214 #[.int .u8 (c.toNat:Int)] w fun e w'=>e=.returned (.bool (isDig c))/\w=w':=by
 by_cases h1:(48:Int)<=c.toNat
 ·by_cases h2:(c.toNat:Int)<=57
  ·go_enter func214,ntmps214
   go_wp2
   go_ret;exact⟨by simp [isDig];omega,rfl⟩
  ·go_enter func214,ntmps214
   go_wp2
   go_ret;exact⟨by simp [isDig];omega,rfl⟩
 ·go_enter func214,ntmps214
  go_wp2
  go_ret;exact⟨by simp [isDig];omega,rfl⟩
theorem nG(c:UInt8)(w:World) :Calls prog 146 #[.int .u8 (c.toNat:Int)] w fun e w'=>e=.returned (.bool (Pl.blank c))/\w=w':=by
 by_cases h1:(c==32)=true
 ·have q1:((c.toNat:Int)==32)=true:=by rw [b32];exact h1
  have HE:Hid (Pl.blank c=true):=by simp [Hid,Pl.blank,h1]
  clear h1;go_enter func146,ntmps146;go_wp2;go_ret;exact⟨aP HE.out.symm,rfl⟩
 ·have h10:(c==32)=false:=by simpa using h1
  have q1:((c.toNat:Int)==32)=false:=by rw [b32];exact h10
  have HE:Hid (Pl.blank c=((c.toNat:Int)==10)):=by simp [Hid,Pl.blank,h10,b10]
  clear h1 h10;go_enter func146,ntmps146;go_wp2;go_ret;exact⟨aP HE.out.symm,rfl⟩
theorem idx_in(c:UInt8):∀l:List UInt8,(0<=Lib.indexByte l c)↔c∈l
 | []=>by simp [Lib.indexByte]
 | b::l=>by
  have ih:=idx_in c l;have hge:=Lib.indexByte_ge l c;unfold Lib.indexByte;by_cases hb:b=c
  ·simp [hb]
  ·rw [if_neg (by simpa using hb)];by_cases h1:Lib.indexByte l c=-1
   ·rw [if_pos (by simpa using h1)];have:¬c∈l:=fun h=>by have:=ih.2 h;omega
    simp only [List.mem_cons,this,or_false];constructor
    ·intro h;omega
    ·intro h;exact absurd h.symm hb
   ·rw [if_neg (by simpa using h1)];have:c∈l:=ih.1 (by omega);simp only [List.mem_cons,this,or_true,iff_true];omega
theorem jJ(s:ByteArray)(c:Int)(w:World) :Calls prog 215 #[.string s,.int .u8 c] w fun e w'=>e=.returned (.int .i64 (Lib.indexByte s.data.toList c.toNat.toUInt8))/\w=w':=by
 go_enter func215,ntmps215
 go_wp2
 rw [run_callFunc_extern func234 (by kernel_rfl) (by kernel_rfl) (by kernel_rfl) (e:=Extern.BytealgIndexByte.indexByte) (by kernel_rfl),Lib.run_indexByteString];simp only [Result.andThen];rw [Oper.upon_value];go_wp2;go_ret;exact⟨rfl,rfl⟩
theorem wH(c:UInt8):Lib.indexByte (ByteArray.mk #[43,45,42,47,60,61,62,63,33]).data.toList ((c.toNat:Int).toNat.toUInt8)=Lib.indexByte Pl.signs c:=by
 have:((c.toNat:Int).toNat.toUInt8)=c:=by simp
 rw [this];rfl
theorem cO(c:UInt8)(w:World) :Calls prog 200 #[.int .u8 (c.toNat:Int)] w fun e w'=>e=.returned (.bool (inW c))/\w=w':=by
 by_cases h1:(97:Int)<=c.toNat/\(c.toNat:Int)<=122
 ·obtain⟨h1,h2⟩:=h1;have HE:Hid (inW c=true):=by simp [Hid,inW,Pl.low_yes c h1 h2]
  go_enter func200,ntmps200
  go_wp2
  go_ret;exact⟨aP HE.out.symm,rfl⟩
 ·have HL:Hid (inW c=(decide (c∈Pl.signs)||isDig c)):=by simp [Hid,inW,Pl.low_no c h1]
  have HI:Hid (decide (0<=Lib.indexByte Pl.signs c)=decide (c∈Pl.signs)):=by simp only [Hid];exact decide_eq_decide.2 (idx_in c Pl.signs)
  by_cases hd:isDig c=true
  ·have HE:Hid (inW c=true):=show inW c=true from by rw [HL.out,hd,Bool.or_true]
   by_cases h97:(97:Int)<=c.toNat
   ·have h122:¬(c.toNat:Int)<=122:=fun h=>h1 ⟨h97,h⟩;clear h1;go_enter func200,ntmps200;go_wp2_with (go_at_call 214;refine(bX c _).mono ?_;rintro e w' ⟨rfl,rfl⟩);go_ret;exact⟨aP HE.out.symm,rfl⟩
   ·clear h1;go_enter func200,ntmps200;go_wp2_with (go_at_call 214;refine(bX c _).mono ?_;rintro e w' ⟨rfl,rfl⟩);go_ret;exact⟨aP HE.out.symm,rfl⟩
  ·have hd0:isDig c=false:=by simpa using hd
   have HE:Hid (inW c=decide (0<=Lib.indexByte Pl.signs c)):=show inW c=_ from by rw [HL.out,hd0,Bool.or_false,HI.out]
   clear hd HL HI;by_cases h97:(97:Int)<=c.toNat
   ·have h122:¬(c.toNat:Int)<=122:=fun h=>h1 ⟨h97,h⟩;clear h1;go_enter func200,ntmps200;go_wp2_with (first | (go_at_call 214;refine(bX c _).mono ?_;rintro e w' ⟨rfl,rfl⟩) | (go_at_call 215;refine(jJ _ _ _).mono ?_;rw [wH];rintro e w' ⟨rfl,rfl⟩));go_ret;exact⟨aP HE.out.symm,rfl⟩
   ·clear h1;go_enter func200,ntmps200;go_wp2_with (first | (go_at_call 214;refine(bX c _).mono ?_;rintro e w' ⟨rfl,rfl⟩) | (go_at_call 215;refine(jJ _ _ _).mono ?_;rw [wH];rintro e w' ⟨rfl,rfl⟩));go_ret;exact⟨aP HE.out.symm,rfl⟩
def eF(w:List UInt8):Bool:=!w.isEmpty&&Pl.isNum w
theorem vJ(r:List UInt8):eF (45::r)=(!r.isEmpty&&r.all isDig):=by
 cases r with
 | nil=>decide
 | cons c q =>
  have hm:Pl.minus (45::c::q)=true:=by simp [Pl.minus]
  simp [eF,Pl.isNum,Pl.digs,hm]
theorem vI(w:List UInt8)(h:¬w.head? = some 45):eF w=(!w.isEmpty&&w.all isDig):=by
 have hm:Pl.minus w=false:=by
  cases w with
  | nil=>rfl
  | cons c q =>simp only [List.head?_cons,Option.some.injEq] at h;simp [Pl.minus,h]
 simp [eF,Pl.isNum,Pl.digs,hm]
theorem dB(s:ByteArray)(k:Nat):(s.extract 0 k).toList=s.data.toList.take k:=by rw [Lib.toList_data,eP];simp
theorem sI(s:ByteArray)(w:World)(hs:s.size<=1000) :Calls prog 201 #[.string s] w fun e w'=>e=.returned (.bool (eF s.data.toList))/\w=w':=by
 by_cases h1:s.data.toList.head? = some 45
 ·obtain⟨r,hr⟩:∃r,s.data.toList=45::r:=by
   cases h:s.data.toList with
   | nil=>rw [h] at h1;simp at h1
   | cons c q=>rw [h] at h1;simp at h1;exact⟨q,by rw [h1]⟩
  have hsz:1<=s.size:=by have:=congrArg List.length hr;simp at this;omega
  have q1:((s.extract 0 1).toList==[45])=true:=by rw [dB,hr];rfl
  have HR:Hid (s.data.toList=45::r):=hr;clear h1 hr;go_enter func201,ntmps201;go_wp2;obtain⟨d,hd⟩:∃d,d=s.extract 1 s.size:=⟨_,rfl⟩
  have hdl:d.data.toList=r:=by rw [hd,Lib.extract_to_end,HR.out];rfl
  have HP:Hid (eF s.data.toList=(!d.data.toList.isEmpty&&d.data.toList.all isDig)):=show eF _=_ from by rw [HR.out,hdl];exact vJ r
  have hdz:d.size<=1000:=by rw [hd];simp;omega
  rw [<- hd,show s.size-1=d.size from by rw [hd];simp];clear hd hdl
  go_loopw [9] (fun i wq=>∃k:Nat,k<=d.size/\i=.int .i64 k/\w=wq/\Hid (∀j (h:j<d.data.toList.length),j<k->isDig d.data.toList[j]=true)) (fun i _=>d.size-(intOf i).toNat)
  case atStart=>exact⟨0,Nat.zero_le _,rfl,rfl,fun j _ hj=>by omega⟩
  case round =>
   obtain⟨k,hk,rfl,rfl,HA⟩:=hrel;by_cases hlt:k<d.size
   ·have hg:=bE d k hlt;have hlt2:(k:Int)<(d.size:Int):=by omega
    by_cases hdg:isDig (d[k]'hlt)=true
    ·have HA2:Hid (∀j (h:j<d.data.toList.length),j<k+1->isDig d.data.toList[j]=true):=by
      intro j h hj;by_cases e:j=k
      ·subst e;rw [hg];exact hdg
      ·exact HA.out j h (by omega)
     clear hg HA;go_wp2_with (go_at_call 214;refine(bX (d[k]'hlt) _).mono ?_;rintro e w' ⟨rfl,rfl⟩)
     go_roundw
     case rel=>(repeat apply Exists.intro);exact⟨⟨k+1,by omega,by go_num,trivial,HA2⟩,rfl⟩
     case measure=>simp [intOf];omega
    ·have hdg0:isDig (d[k]'hlt)=false:=by simpa using hdg
     have HF:Hid (eF s.data.toList=false):=show eF _=false from by rw [HP.out,Pl.not_all _ k (by simpa using hlt) (by rw [hg];exact hdg0),Bool.and_false]
     clear hg HA hdg;go_wp2_with (go_at_call 214;refine(bX (d[k]'hlt) _).mono ?_;rintro e w' ⟨rfl,rfl⟩);go_ret;exact⟨aP HF.out.symm,rfl⟩
   ·have HF:Hid (eF s.data.toList=!d.data.toList.isEmpty):=show eF _=_ from by
     rw [HP.out,Pl.all_of _ fun j h=>HA.out j h (by simp at h;omega),Bool.and_true]
    go_wp2
    go_ret;exact⟨aP (by rw [HF.out,<-Lib.toList_data]),rfl⟩
 ·have HP0:Hid (eF s.data.toList=(!s.data.toList.isEmpty&&s.data.toList.all isDig)):=vI _ h1;by_cases hz:s.size=0
  ·have hsz:¬(1:Int)<=(s.size:Int):=by omega
   clear h1;go_enter func201,ntmps201;go_wp2;have he:s.data.toList=[]:=List.eq_nil_of_length_eq_zero (by simpa using hz);have HF:Hid (eF s.data.toList=false):=show eF _=false from by rw [he];rfl
   have HEm:Hid (s.toList=[]):=show s.toList=[] from by rw [Lib.toList_data];exact he
   clear HP0 he
   go_loopw [9] (fun i wq=>i=.int .i64 0/\w=wq) (fun _ _=>0)
   case atStart=>exact⟨rfl,rfl⟩
   case round =>obtain⟨rfl,rfl⟩:=hrel;go_wp2;go_ret;exact⟨aP (by rw [HF.out,HEm.out];rfl),rfl⟩
  ·have hsz:1<=s.size:=by omega
   have q1:((s.extract 0 1).toList==[45])=false:=by
    rw [dB]
    cases h:s.data.toList with
    | nil =>
     have h2:s.data.toList.length=s.size:=by simp
     rw [h] at h2;simp at h2;omega
    | cons c q=>rw [h] at h1;simpa using h1
   clear h1 hz;go_enter func201,ntmps201;go_wp2;obtain⟨d,hd⟩:∃d,d=s:=⟨_,rfl⟩
   subst hd;have HP:=HP0
   go_loopw [9] (fun i wq=>∃k:Nat,k<=d.size/\i=.int .i64 k/\w=wq/\Hid (∀j (h:j<d.data.toList.length),j<k->isDig d.data.toList[j]=true)) (fun i _=>d.size-(intOf i).toNat)
   case atStart=>exact⟨0,Nat.zero_le _,rfl,rfl,fun j _ hj=>by omega⟩
   case round =>
    obtain⟨k,hk,rfl,rfl,HA⟩:=hrel;by_cases hlt:k<d.size
    ·have hg:=bE d k hlt;have hlt2:(k:Int)<(d.size:Int):=by omega
     by_cases hdg:isDig (d[k]'hlt)=true
     ·have HA2:Hid (∀j (h:j<d.data.toList.length),j<k+1->isDig d.data.toList[j]=true):=by
       intro j h hj;by_cases e:j=k
       ·subst e;rw [hg];exact hdg
       ·exact HA.out j h (by omega)
      clear hg HA;go_wp2_with (go_at_call 214;refine(bX (d[k]'hlt) _).mono ?_;rintro e w' ⟨rfl,rfl⟩)
      go_roundw
      case rel=>(repeat apply Exists.intro);exact⟨⟨k+1,by omega,by go_num,trivial,HA2⟩,rfl⟩
      case measure=>simp [intOf];omega
     ·have hdg0:isDig (d[k]'hlt)=false:=by simpa using hdg
      have HF:Hid (eF d.data.toList=false):=show eF _=false from by rw [HP.out,Pl.not_all _ k (by simpa using hlt) (by rw [hg];exact hdg0),Bool.and_false]
      clear hg HA hdg;go_wp2_with (go_at_call 214;refine(bX (d[k]'hlt) _).mono ?_;rintro e w' ⟨rfl,rfl⟩);go_ret;exact⟨aP HF.out.symm,rfl⟩
    ·have HF:Hid (eF d.data.toList=!d.data.toList.isEmpty):=show eF _=_ from by
      rw [HP.out,Pl.all_of _ fun j h=>HA.out j h (by simp at h;omega),Bool.and_true]
     go_wp2
     go_ret;exact⟨aP (by rw [HF.out,<-Lib.toList_data]),rfl⟩
theorem yT(s:ByteArray)(w:World)(hs:s.size<=1000) :Calls prog 202 #[.string s] w fun e w'=>e=.returned (.bool (Pl.noDig s.data.toList&&!s.data.toList.isEmpty))/\w=w':=by
 go_enter func202,ntmps202
 go_wp2
 go_loopw [6] (fun i wq=>∃k:Nat,k<=s.size/\i=.int .i64 k/\w=wq/\Hid (∀j (h:j<s.data.toList.length),j<k->(!isDig s.data.toList[j])=true)) (fun i _=>s.size-(intOf i).toNat)
 case atStart=>exact⟨0,Nat.zero_le _,rfl,rfl,fun j _ hj=>by omega⟩
 case round =>
  obtain⟨k,hk,rfl,rfl,HA⟩:=hrel;by_cases hlt:k<s.size
  ·have hg:=bE s k hlt;have hlt2:(k:Int)<(s.size:Int):=by omega
   by_cases hdg:isDig (s[k]'hlt)=true
   ·have HF:Hid (Pl.noDig s.data.toList=false):=Pl.not_all _ k (by simpa using hlt) (by rw [hg,hdg];rfl);clear hg HA;go_wp2_with (go_at_call 214;refine(bX (s[k]'hlt) _).mono ?_;rintro e w' ⟨rfl,rfl⟩);go_ret;exact⟨aP (by rw [HF.out];rfl),rfl⟩
   ·have hdg0:isDig (s[k]'hlt)=false:=by simpa using hdg
    have HA2:Hid (∀j (h:j<s.data.toList.length),j<k+1->(!isDig s.data.toList[j])=true):=by
     intro j h hj;by_cases e:j=k
     ·subst e;rw [hg,hdg0];rfl
     ·exact HA.out j h (by omega)
    clear hg HA hdg;go_wp2_with (go_at_call 214;refine(bX (s[k]'hlt) _).mono ?_;rintro e w' ⟨rfl,rfl⟩);exact⟨⟨k+1,by omega,by go_num,trivial,HA2⟩,by simp [intOf];omega⟩
  ·have HF:Hid (Pl.noDig s.data.toList=true):=Pl.all_of _ fun j h=>HA.out j h (by simp at h;omega);go_wp2;go_ret;exact⟨aP (by rw [HF.out,Bool.true_and,<-Lib.toList_data]),rfl⟩
end
end Go.Proofs.YtkgbdddkcjpgfaaGreatDoor
