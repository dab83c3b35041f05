import Derived.Lib.Bytealg
import Derived.Test.YtkgbdddkcjpgfaaGreatDoorC01
import Derived.Lib.Strings
import Derived.Lib.IndexBytes
import Derived.Test.YtkgbdddkcjpgfaaGreatDoorC03
import Derived.Deep.AppendLies
namespace Go.Proofs.YtkgbdddkcjpgfaaGreatDoor
set_option maxHeartbeats 2000000
set_option maxRecDepth 100000
open Go.Proofs.Tryz
open Pl (inW isDig)
section
open Go.RowKit
theorem bX(c:UInt8)(w:World) :Calls prog 214 #[.int .u8 (c.toNat:Int)] w fun e w'=>e=.returned (.bool (isDig c))/\w=w':=by
 by_cases h1:(48:Int)<=c.toNat
 ·by_cases h2:(c.toNat:Int)<=57
  ·go_enter func214,ntmps214
   go_wp2
   go_ret;exact⟨by simp [isDig];omega,rfl⟩
  ·go_enter func214,ntmps214
   go_wp2
   go_ret;exact⟨by simp [isDig];omega,rfl⟩
 ·go_enter func214,ntmps214
  go_wp2
  go_ret;exact⟨by simp [isDig];omega,rfl⟩
theorem nG(c:UInt8)(w:World) :Calls prog 146 #[.int .u8 (c.toNat:Int)] w fun e w'=>e=.returned (.bool (Pl.blank c))/\w=w':=by
 by_cases h1:(c==32)=true
 ·have q1:((c.toNat:Int)==32)=true:=by rw [b32];exact h1
  have HE:Hid (Pl.blank c=true):=by simp [Hid,Pl.blank,h1]
  clear h1;go_enter func146,ntmps146;go_wp2;go_ret;exact⟨aP HE.out.symm,rfl⟩
 ·have h10:(c==32)=false:=by simpa using h1
  have q1:((c.toNat:Int)==32)=false:=by rw [b32];exact h10
  have HE:Hid (Pl.blank c=((c.toNat:Int)==10)):=by simp [Hid,Pl.blank,h10,b10]
  clear h1 h10;go_enter func146,ntmps146;go_wp2;go_ret;exact⟨aP HE.out.symm,rfl⟩
theorem idx_in(c:UInt8):∀l:List UInt8,(0<=Lib.indexByte l c)↔c∈l
 | []=>by simp [Lib.indexByte]
 | b::l=>by
  have ih:=idx_in c l;have hge:=Lib.indexByte_ge l c;unfold Lib.indexByte;by_cases hb:b=c
  ·simp [hb]
  ·rw [if_neg (by simpa using hb)];by_cases h1:Lib.indexByte l c=-1
   ·rw [if_pos (by simpa using h1)];have:¬c∈l:=fun h=>by have:=ih.2 h;omega
    simp only [List.mem_cons,this,or_false];constructor
    ·intro h;omega
    ·intro h;exact absurd h.symm hb
   ·rw [if_neg (by simpa using h1)];have:c∈l:=ih.1 (by omega);simp only [List.mem_cons,this,or_true,iff_true];omega
theorem jJ(s:ByteArray)(c:Int)(w:World) :Calls prog 215 #[.string s,.int .u8 c] w fun e w'=>e=.returned (.int .i64 (Lib.indexByte s.data.toList c.toNat.toUInt8))/\w=w':=by
 go_enter func215,ntmps215
 go_wp2
 rw [run_callFunc_extern func234 (by kernel_rfl) (by kernel_rfl) (by kernel_rfl) (e:=Extern.BytealgIndexByte.indexByte) (by kernel_rfl),Lib.run_indexByteString];simp only [Result.andThen];rw [Oper.upon_value];go_wp2;go_ret;exact⟨rfl,rfl⟩
theorem wH(c:UInt8):Lib.indexByte (ByteArray.mk #[43,45,42,47,60,61,62,63,33]).data.toList ((c.toNat:Int).toNat.toUInt8)=Lib.indexByte Pl.signs c:=by
 have:((c.toNat:Int).toNat.toUInt8)=c:=by simp
 rw [this];rfl
theorem cO(c:UInt8)(w:World) :Calls prog 200 #[.int .u8 (c.toNat:Int)] w fun e w'=>e=.returned (.bool (inW c))/\w=w':=by
 by_cases h1:(97:Int)<=c.toNat/\(c.toNat:Int)<=122
 ·obtain⟨h1,h2⟩:=h1;have HE:Hid (inW c=true):=by simp [Hid,inW,Pl.low_yes c h1 h2]
  go_enter func200,ntmps200
  go_wp2
  go_ret;exact⟨aP HE.out.symm,rfl⟩
 ·have HL:Hid (inW c=(decide (c∈Pl.signs)||isDig c)):=by simp [Hid,inW,Pl.low_no c h1]
  have HI:Hid (decide (0<=Lib.indexByte Pl.signs c)=decide (c∈Pl.signs)):=by simp only [Hid];exact decide_eq_decide.2 (idx_in c Pl.signs)
  by_cases hd:isDig c=true
  ·have HE:Hid (inW c=true):=show inW c=true from by rw [HL.out,hd,Bool.or_true]
   by_cases h97:(97:Int)<=c.toNat
   ·have h122:¬(c.toNat:Int)<=122:=fun h=>h1 ⟨h97,h⟩;clear h1;go_enter func200,ntmps200;go_wp2_with (go_at_call 214;refine(bX c _).mono ?_;rintro e w' ⟨rfl,rfl⟩);go_ret;exact⟨aP HE.out.symm,rfl⟩
   ·clear h1;go_enter func200,ntmps200;go_wp2_with (go_at_call 214;refine(bX c _).mono ?_;rintro e w' ⟨rfl,rfl⟩);go_ret;exact⟨aP HE.out.symm,rfl⟩
  ·have hd0:isDig c=false:=by simpa using hd
   have HE:Hid (inW c=decide (0<=Lib.indexByte Pl.signs c)):=show inW c=_ from by rw [HL.out,hd0,Bool.or_false,HI.out]
   clear hd HL HI;by_cases h97:(97:Int)<=c.toNat
   ·have h122:¬(c.toNat:Int)<=122:=fun h=>h1 ⟨h97,h⟩;clear h1;go_enter func200,ntmps200;go_wp2_with (first | (go_at_call 214;refine(bX c _).mono ?_;rintro e w' ⟨rfl,rfl⟩) | (go_at_call 215;refine(jJ _ _ _).mono ?_;rw [wH];rintro e w' ⟨rfl,rfl⟩));go_ret;exact⟨aP HE.out.symm,rfl⟩
   ·clear h1;go_enter func200,ntmps200;go_wp2_with (first | (go_at_call 214;refine(bX c _).mono ?_;rintro e w' ⟨rfl,rfl⟩) | (go_at_call 215;refine(jJ _ _ _).mono ?_;rw [wH];rintro e w' ⟨rfl,rfl⟩));go_ret;exact⟨aP HE.out.symm,rfl⟩
def eF(w:List UInt8):Bool:=!w.isEmpty&&Pl.isNum w
theorem vJ(r:List UInt8):eF (45::r)=(!r.isEmpty&&r.all isDig):=by
 cases r with
 | nil=>decide
 | cons c q =>
  have hm:Pl.minus (45::c::q)=true:=by simp [Pl.minus]
  simp [eF,Pl.isNum,Pl.digs,hm]
theorem vI(w:List UInt8)(h:¬w.head? = some 45):eF w=(!w.isEmpty&&w.all isDig):=by
 have hm:Pl.minus w=false:=by
  cases w with
  | nil=>rfl
  | cons c q =>simp only [List.head?_cons,Option.some.injEq] at h;simp [Pl.minus,h]
 simp [eF,Pl.isNum,Pl.digs,hm]
theorem dB(s:ByteArray)(k:Nat):(s.extract 0 k).toList=s.data.toList.take k:=by rw [Lib.toList_data,eP];simp
theorem sI(s:ByteArray)(w:World)(hs:s.size<=1000) :Calls prog 201 #[.string s] w fun e w'=>e=.returned (.bool (eF s.data.toList))/\w=w':=by
 by_cases h1:s.data.toList.head? = some 45
 ·obtain⟨r,hr⟩:∃r,s.data.toList=45::r:=by
   cases h:s.data.toList with
   | nil=>rw [h] at h1;simp at h1
   | cons c q=>rw [h] at h1;simp at h1;exact⟨q,by rw [h1]⟩
  have hsz:1<=s.size:=by have:=congrArg List.length hr;simp at this;omega
  have q1:((s.extract 0 1).toList==[45])=true:=by rw [dB,hr];rfl
  have HR:Hid (s.data.toList=45::r):=hr;clear h1 hr;go_enter func201,ntmps201;go_wp2;obtain⟨d,hd⟩:∃d,d=s.extract 1 s.size:=⟨_,rfl⟩
  have hdl:d.data.toList=r:=by rw [hd,Lib.extract_to_end,HR.out];rfl
  have HP:Hid (eF s.data.toList=(!d.data.toList.isEmpty&&d.data.toList.all isDig)):=show eF _=_ from by rw [HR.out,hdl];exact vJ r
  have hdz:d.size<=1000:=by rw [hd];simp;omega
  rw [<- hd,show s.size-1=d.size from by rw [hd];simp];clear hd hdl
  go_loopw [9] (fun i wq=>∃k:Nat,k<=d.size/\i=.int .i64 k/\w=wq/\Hid (∀j (h:j<d.data.toList.length),j<k->isDig d.data.toList[j]=true)) (fun i _=>d.size-(intOf i).toNat)
  case atStart=>exact⟨0,Nat.zero_le _,rfl,rfl,fun j _ hj=>by omega⟩
  case round =>
   obtain⟨k,hk,rfl,rfl,HA⟩:=hrel;by_cases hlt:k<d.size
   ·have hg:=bE d k hlt;have hlt2:(k:Int)<(d.size:Int):=by omega
    by_cases hdg:isDig (d[k]'hlt)=true
    ·have HA2:Hid (∀j (h:j<d.data.toList.length),j<k+1->isDig d.data.toList[j]=true):=by
      intro j h hj;by_cases e:j=k
      ·subst e;rw [hg];exact hdg
      ·exact HA.out j h (by omega)
     clear hg HA;go_wp2_with (go_at_call 214;refine(bX (d[k]'hlt) _).mono ?_;rintro e w' ⟨rfl,rfl⟩)
     go_roundw
     case rel=>(repeat apply Exists.intro);exact⟨⟨k+1,by omega,by go_num,trivial,HA2⟩,rfl⟩
     case measure=>simp [intOf];omega
    ·have hdg0:isDig (d[k]'hlt)=false:=by simpa using hdg
     have HF:Hid (eF s.data.toList=false):=show eF _=false from by rw [HP.out,Pl.not_all _ k (by simpa using hlt) (by rw [hg];exact hdg0),Bool.and_false]
     clear hg HA hdg;go_wp2_with (go_at_call 214;refine(bX (d[k]'hlt) _).mono ?_;rintro e w' ⟨rfl,rfl⟩);go_ret;exact⟨aP HF.out.symm,rfl⟩
   ·have HF:Hid (eF s.data.toList=!d.data.toList.isEmpty):=show eF _=_ from by
     rw [HP.out,Pl.all_of _ fun j h=>HA.out j h (by simp at h;omega),Bool.and_true]
    go_wp2
    go_ret;exact⟨aP (by rw [HF.out,<-Lib.toList_data]),rfl⟩
 ·have HP0:Hid (eF s.data.toList=(!s.data.toList.isEmpty&&s.data.toList.all isDig)):=vI _ h1;by_cases hz:s.size=0
  ·have hsz:¬(1:Int)<=(s.size:Int):=by omega
   clear h1;go_enter func201,ntmps201;go_wp2;have he:s.data.toList=[]:=List.eq_nil_of_length_eq_zero (by simpa using hz);have HF:Hid (eF s.data.toList=false):=show eF _=false from by rw [he];rfl
   have HEm:Hid (s.toList=[]):=show s.toList=[] from by rw [Lib.toList_data];exact he
   clear HP0 he
   go_loopw [9] (fun i wq=>i=.int .i64 0/\w=wq) (fun _ _=>0)
   case atStart=>exact⟨rfl,rfl⟩
   case round =>obtain⟨rfl,rfl⟩:=hrel;go_wp2;go_ret;exact⟨aP (by rw [HF.out,HEm.out];rfl),rfl⟩
  ·have hsz:1<=s.size:=by omega
   have q1:((s.extract 0 1).toList==[45])=false:=by
    rw [dB]
    cases h:s.data.toList with
    | nil =>
     have h2:s.data.toList.length=s.size:=by simp
     rw [h] at h2;simp at h2;omega
    | cons c q=>rw [h] at h1;simpa using h1
   clear h1 hz;go_enter func201,ntmps201;go_wp2;obtain⟨d,hd⟩:∃d,d=s:=⟨_,rfl⟩
   subst hd;have HP:=HP0
   go_loopw [9] (fun i wq=>∃k:Nat,k<=d.size/\i=.int .i64 k/\w=wq/\Hid (∀j (h:j<d.data.toList.length),j<k->isDig d.data.toList[j]=true)) (fun i _=>d.size-(intOf i).toNat)
   case atStart=>exact⟨0,Nat.zero_le _,rfl,rfl,fun j _ hj=>by omega⟩
   case round =>
    obtain⟨k,hk,rfl,rfl,HA⟩:=hrel;by_cases hlt:k<d.size
    ·have hg:=bE d k hlt;have hlt2:(k:Int)<(d.size:Int):=by omega
     by_cases hdg:isDig (d[k]'hlt)=true
     ·have HA2:Hid (∀j (h:j<d.data.toList.length),j<k+1->isDig d.data.toList[j]=true):=by
       intro j h hj;by_cases e:j=k
       ·subst e;rw [hg];exact hdg
       ·exact HA.out j h (by omega)
      clear hg HA;go_wp2_with (go_at_call 214;refine(bX (d[k]'hlt) _).mono ?_;rintro e w' ⟨rfl,rfl⟩)
      go_roundw
      case rel=>(repeat apply Exists.intro);exact⟨⟨k+1,by omega,by go_num,trivial,HA2⟩,rfl⟩
      case measure=>simp [intOf];omega
     ·have hdg0:isDig (d[k]'hlt)=false:=by simpa using hdg
      have HF:Hid (eF d.data.toList=false):=show eF _=false from by rw [HP.out,Pl.not_all _ k (by simpa using hlt) (by rw [hg];exact hdg0),Bool.and_false]
      clear hg HA hdg;go_wp2_with (go_at_call 214;refine(bX (d[k]'hlt) _).mono ?_;rintro e w' ⟨rfl,rfl⟩);go_ret;exact⟨aP HF.out.symm,rfl⟩
    ·have HF:Hid (eF d.data.toList=!d.data.toList.isEmpty):=show eF _=_ from by
      rw [HP.out,Pl.all_of _ fun j h=>HA.out j h (by simp at h;omega),Bool.and_true]
     go_wp2
     go_ret;exact⟨aP (by rw [HF.out,<-Lib.toList_data]),rfl⟩
theorem yT(s:ByteArray)(w:World)(hs:s.size<=1000) :Calls prog 202 #[.string s] w fun e w'=>e=.returned (.bool (Pl.noDig s.data.toList&&!s.data.toList.isEmpty))/\w=w':=by
 go_enter func202,ntmps202
 go_wp2
 go_loopw [6] (fun i wq=>∃k:Nat,k<=s.size/\i=.int .i64 k/\w=wq/\Hid (∀j (h:j<s.data.toList.length),j<k->(!isDig s.data.toList[j])=true)) (fun i _=>s.size-(intOf i).toNat)
 case atStart=>exact⟨0,Nat.zero_le _,rfl,rfl,fun j _ hj=>by omega⟩
 case round =>
  obtain⟨k,hk,rfl,rfl,HA⟩:=hrel;by_cases hlt:k<s.size
  ·have hg:=bE s k hlt;have hlt2:(k:Int)<(s.size:Int):=by omega
   by_cases hdg:isDig (s[k]'hlt)=true
   ·have HF:Hid (Pl.noDig s.data.toList=false):=Pl.not_all _ k (by simpa using hlt) (by rw [hg,hdg];rfl);clear hg HA;go_wp2_with (go_at_call 214;refine(bX (s[k]'hlt) _).mono ?_;rintro e w' ⟨rfl,rfl⟩);go_ret;exact⟨aP (by rw [HF.out];rfl),rfl⟩
   ·have hdg0:isDig (s[k]'hlt)=false:=by simpa using hdg
    have HA2:Hid (∀j (h:j<s.data.toList.length),j<k+1->(!isDig s.data.toList[j])=true):=by
     intro j h hj;by_cases e:j=k
     ·subst e;rw [hg,hdg0];rfl
     ·exact HA.out j h (by omega)
    clear hg HA hdg;go_wp2_with (go_at_call 214;refine(bX (s[k]'hlt) _).mono ?_;rintro e w' ⟨rfl,rfl⟩);exact⟨⟨k+1,by omega,by go_num,trivial,HA2⟩,by simp [intOf];omega⟩
  ·have HF:Hid (Pl.noDig s.data.toList=true):=Pl.all_of _ fun j h=>HA.out j h (by simp at h;omega);go_wp2;go_ret;exact⟨aP (by rw [HF.out,Bool.true_and,<-Lib.toList_data]),rfl⟩
def cE(t:List UInt8):Int:=if t=[40] then 0 else if t=[41] then 1 else if t=[39] then 2 else if t=[35,116]\/t=[35,102] then 3 else if Pl.isNum t then 4 else 5
def FTok(w:World)(r:Option (List UInt8))(e:Ending)(w':World):Prop :=
 Below w.heap.size w w'/\∃(k:Int)(t:ByteArray)(b:Bool),e=.returned (.tuple #[.agg #[.int .i64 k,.string t],.bool b]) /\
  ((r=none/\b=false)\/(b=true/\∃l,r=some l/\t.data.toList=l/\k=cE l))
def cF(r:List UInt8):Option (List UInt8) :=
 match r with
 | []=>none
 | d::_=>if(d==116||d==102)=true then some [35,d] else none
theorem ext2(s:ByteArray)(k:Nat)(l:List UInt8)(h:s.data.toList.take k=l):(s.extract 0 k).data.toList=l:=by rw [eP];simpa using h
theorem nH(s:ByteArray)(w:World)(hs:s.size<=1000)(r:List UInt8)(hr:s.data.toList=35::r) :Calls prog 184 #[.string s] w fun e w'=>FTok w (cF r) e w':=by
 have hl:s.data.toList.length=s.size:=by simp
 cases r with
 | nil =>
  rw [hr] at hl;have h2:¬(2:Int)<=(s.size:Int):=by simp at hl;omega
  clear hl hr;go_enter func184,ntmps184;go_wp2;exact bodyPost_ret (v:=.tuple #[.agg #[.int .i64 0,.string (⟨#[]⟩:ByteArray)],.bool false]) (by simp [results,Tryz.results184,go_sem]) rfl ⟨(Below.refl _ _).alloc (Nat.le_refl _) _,_,_,_,rfl,.inl ⟨rfl,rfl⟩⟩
 | cons d q =>
  rw [hr] at hl;have h2:2<=s.size:=by simp at hl;omega
  have ht:s.data.toList.take 2=[35,d]:=by rw [hr];rfl
  by_cases hd:d=116
  ·subst hd;have q1:((s.extract 0 2).toList==[35,116])=true:=by rw [dB,ht];rfl
   have HT:Hid (_=_):=ext2 s 2 _ ht;clear hl hr ht;go_enter func184,ntmps184;go_wp2;exact bodyPost_ret (v:=.tuple #[.agg #[.int .i64 3,.string (s.extract 0 2)],.bool true]) (by simp [results,Tryz.results184,go_sem]) rfl ⟨(Below.refl _ _).alloc (Nat.le_refl _) _,_,_,_,rfl,.inr ⟨rfl,_,rfl,HT.out,rfl⟩⟩
  ·have q1:((s.extract 0 2).toList==[35,116])=false:=by rw [dB,ht];simpa using hd
   by_cases hd2:d=102
   ·subst hd2;have q2:((s.extract 0 2).toList==[35,102])=true:=by rw [dB,ht];rfl
    have HT:Hid (_=_):=ext2 s 2 _ ht;clear hl hr ht hd;go_enter func184,ntmps184;go_wp2;exact bodyPost_ret (v:=.tuple #[.agg #[.int .i64 3,.string (s.extract 0 2)],.bool true]) (by simp [results,Tryz.results184,go_sem]) rfl ⟨(Below.refl _ _).alloc (Nat.le_refl _) _,_,_,_,rfl,.inr ⟨rfl,_,rfl,HT.out,rfl⟩⟩
   ·have q2:((s.extract 0 2).toList==[35,102])=false:=by rw [dB,ht];simpa using hd2
    have hdd:(d==116||d==102)=false:=by simp [hd,hd2]
    have HN:Hid (cF (d::q)=none):=show cF _=none from by unfold cF;simp [hdd]
    clear hl hr ht hd hd2 hdd;go_enter func184,ntmps184;go_wp2;exact bodyPost_ret (v:=.tuple #[.agg #[.int .i64 0,.string (⟨#[]⟩:ByteArray)],.bool false]) (by simp [results,Tryz.results184,go_sem]) rfl ⟨(Below.refl _ _).alloc (Nat.le_refl _) _,_,_,_,rfl,.inl ⟨HN.out,rfl⟩⟩
theorem mH(l:List UInt8)(h:∀c∈l,inW c=true):¬l=[40]/\¬l=[41]/\¬l=[39]/\¬(l=[35,116]\/l=[35,102]):=by
 refine⟨?_,?_,?_,?_⟩
 ·rintro rfl;exact absurd (h 40 (by simp)) (by decide)
 ·rintro rfl;exact absurd (h 41 (by simp)) (by decide)
 ·rintro rfl;exact absurd (h 39 (by simp)) (by decide)
 ·rintro(rfl | rfl)<;>exact absurd (h 35 (by simp)) (by decide)
theorem gB(p:UInt8->Bool):∀(l:List UInt8)(c:UInt8),c∈l.takeWhile p->p c=true
 | [],_,h=>by simp at h
 | x::r,c,h=>by
  by_cases hx:p x=true
  ·rw [List.takeWhile_cons,if_pos hx] at h;rcases List.mem_cons.1 h with rfl | h
   ·exact hx
   ·exact gB p r c h
  ·rw [List.takeWhile_cons,if_neg hx] at h;simp at h
def gX(l:List UInt8):Bool:=!l.isEmpty&&(Pl.isNum l||Pl.noDig l)
def bZ(l:List UInt8):Option (List UInt8):=if gX l then some l else none
theorem gE{l:List UInt8}(h:∀c∈l,inW c=true):cE l=if Pl.isNum l then 4 else 5:=by obtain⟨h1,h2,h3,h4⟩:=mH l h;unfold cE;rw [if_neg h1,if_neg h2,if_neg h3,if_neg h4]
theorem cD(s:ByteArray)(w:World)(hs:s.size<=1000)(b:Bool)(h:eF s.data.toList=b):Calls prog 201 #[.string s] w fun e w'=>e=.returned (.bool b)/\w=w':=by subst h;exact sI s w hs
theorem dA(s:ByteArray)(w:World)(hs:s.size<=1000)(b:Bool)(h:(Pl.noDig s.data.toList&&!s.data.toList.isEmpty)=b):Calls prog 202 #[.string s] w fun e w'=>e=.returned (.bool b)/\w=w':=by subst h;exact yT s w hs
theorem oZ(s:ByteArray)(w:World)(hs:s.size<=1000) :Calls prog 185 #[.string s] w fun e w'=>FTok w (bZ (s.data.toList.takeWhile inW)) e w':=by
 go_enter func185,ntmps185
 go_wp2_with fail
 go_loopw [4] (fun i wq=>∃k:Nat,k<=s.size/\i=.int .i64 k/\wq=w.alloc (.cells #[.int .i64 0,.string ⟨#[]⟩] 288)/\Hid (∀j (h:j<s.data.toList.length),j<k->inW s.data.toList[j]=true)) (fun i _=>s.size-(intOf i).toNat)
 case atStart=>exact⟨0,Nat.zero_le _,rfl,rfl,fun j _ hj=>by omega⟩
 case round =>
  obtain⟨k,hk,rfl,rfl,HA⟩:=hrel;have hwl:w.heap.size<(w.alloc (.cells #[.int .i64 0,.string ⟨#[]⟩] 288)).heap.size:=by simp
  by_cases hc:∃hlt:k<s.size,inW (s[k]'hlt)=true
  ·obtain⟨hlt,hw⟩:=hc;have hg:=bE s k hlt
   have HA2:Hid (∀j (h:j<s.data.toList.length),j<k+1->inW s.data.toList[j]=true):=by
    intro j h hj;by_cases e:j=k
    ·subst e;rw [hg];exact hw
    ·exact HA.out j h (by omega)
   clear hg HA;go_wp2_with (go_at_call 200;refine(cO (s[k]'hlt) _).mono ?_;rintro e w' ⟨rfl,rfl⟩);exact⟨⟨k+1,by omega,by go_num,trivial,HA2⟩,by simp [intOf];omega⟩
  ·have htk:s.data.toList.takeWhile inW=s.data.toList.take k:=(Pl.take_of_all inW s.data.toList k (by simpa using hk) (fun j h hj=>HA.out j h hj) (fun h=>by
    have hlt:k<s.size:=by simpa using h
    rw [bE s k hlt];by_cases hw:inW (s[k]'hlt)=true
    ·exact absurd ⟨hlt,hw⟩ hc
    ·simpa using hw)).1
   have HW:Hid (∀c∈s.data.toList.take k,inW c=true):=by rw [<- htk];exact gB _ _
   have HK:Hid (_=_):=htk;have HX:Hid ((s.extract 0 k).data.toList=s.data.toList.take k):=ext2 s k _ rfl;have hxz:(s.extract 0 k).size<=1000:=by simp;omega
   clear htk HA;by_cases hlt:k<s.size
   ·have hw0:inW (s[k]'hlt)=false:=by
     by_cases hw:inW (s[k]'hlt)=true
     ·exact absurd ⟨hlt,hw⟩ hc
     ·simpa using hw
    clear hc;by_cases hn0:eF (s.extract 0 k).data.toList=true
    ·have HN:Hid (eF (s.data.toList.take k)=true):=show eF _=true from by rw [<- HX.out];exact hn0
     have hn:Hid (_=true):=hn0;clear hn0;go_wp2_with (first | (go_at_call 200;refine(cO (s[k]'hlt) _).mono ?_;rintro e w' ⟨rfl,rfl⟩) | (go_at_call 201;refine(cD (s.extract 0 k) _ hxz true hn.out).mono ?_;rintro e w' ⟨rfl,rfl⟩) | (go_at_call 202;refine(dA (s.extract 0 k) _ hxz true hm.out).mono ?_;rintro e w' ⟨rfl,rfl⟩));refine bodyPost_ret (v:=.tuple #[.agg #[.int .i64 4,.string (s.extract 0 k)],.bool true]) (by simp [results,Tryz.results185,go_sem]) rfl ⟨(Below.refl _ _).alloc (Nat.le_refl _) _,_,_,_,rfl,?_⟩;rw [HK.out,bZ];have h1:=HN.out;simp only [eF,Bool.and_eq_true] at h1;rw [if_pos (by simp only [gX,h1.1,h1.2];rfl)];exact .inr ⟨rfl,_,rfl,HX.out,by rw [gE HW.out,if_pos h1.2]⟩
    ·have hn1:eF (s.extract 0 k).data.toList=false:=by simpa only [Bool.not_eq_true] using hn0
     have HN:Hid (eF (s.data.toList.take k)=false):=show eF _=false from by rw [<- HX.out];exact hn1
     have hn:Hid (_=false):=hn1;clear hn0 hn1;by_cases hm0:(Pl.noDig (s.extract 0 k).data.toList&&!(s.extract 0 k).data.toList.isEmpty)=true
     ·have HM:Hid ((Pl.noDig (s.data.toList.take k)&&!(s.data.toList.take k).isEmpty)=true):=show _=true from by rw [<- HX.out];exact hm0
      have hm:Hid (_=true):=hm0;clear hm0;go_wp2_with (first | (go_at_call 200;refine(cO (s[k]'hlt) _).mono ?_;rintro e w' ⟨rfl,rfl⟩) | (go_at_call 201;refine(cD (s.extract 0 k) _ hxz false hn.out).mono ?_;rintro e w' ⟨rfl,rfl⟩) | (go_at_call 202;refine(dA (s.extract 0 k) _ hxz true hm.out).mono ?_;rintro e w' ⟨rfl,rfl⟩));refine bodyPost_ret (v:=.tuple #[.agg #[.int .i64 5,.string (s.extract 0 k)],.bool true]) (by simp [results,Tryz.results185,go_sem]) rfl ⟨(Below.refl _ _).alloc (Nat.le_refl _) _,_,_,_,rfl,?_⟩;rw [HK.out,bZ];have h1:=HM.out;simp only [Bool.and_eq_true] at h1;have h2:Pl.isNum (s.data.toList.take k)=false:=by have:=HN.out;simp only [eF,h1.2,Bool.true_and] at this;exact this
      rw [if_pos (by simp only [gX,h1.1,h1.2,Bool.or_true];rfl)];exact .inr ⟨rfl,_,rfl,HX.out,by rw [gE HW.out,if_neg (by simp [h2])]⟩
     ·have hm1:(Pl.noDig (s.extract 0 k).data.toList&&!(s.extract 0 k).data.toList.isEmpty)=false:=by simpa only [Bool.not_eq_true] using hm0
      have HM:Hid ((Pl.noDig (s.data.toList.take k)&&!(s.data.toList.take k).isEmpty)=false):=show _=false from by rw [<- HX.out];exact hm1
      have hm:Hid (_=false):=hm1;clear hm0 hm1;go_wp2_with (first | (go_at_call 200;refine(cO (s[k]'hlt) _).mono ?_;rintro e w' ⟨rfl,rfl⟩) | (go_at_call 201;refine(cD (s.extract 0 k) _ hxz false hn.out).mono ?_;rintro e w' ⟨rfl,rfl⟩) | (go_at_call 202;refine(dA (s.extract 0 k) _ hxz false hm.out).mono ?_;rintro e w' ⟨rfl,rfl⟩));refine bodyPost_ret (v:=.tuple #[.agg #[.int .i64 0,.string ⟨#[]⟩],.bool false]) (by simp [results,Tryz.results185,go_sem]) rfl ⟨(Below.refl _ _).alloc (Nat.le_refl _) _,_,_,_,rfl,?_⟩;rw [HK.out,bZ];have h1:=HM.out;have h2:=HN.out
      have h3:gX (s.data.toList.take k)=false:=by
       simp only [gX];simp only [eF] at h2
       cases h:(s.data.toList.take k).isEmpty
       ·rw [h] at h1 h2;simp at h1 h2;simp [h1,h2]
       ·rfl
      rw [if_neg (by simp [h3])];exact .inl ⟨rfl,rfl⟩
   ·clear hc;by_cases hn0:eF (s.extract 0 k).data.toList=true
    ·have HN:Hid (eF (s.data.toList.take k)=true):=show eF _=true from by rw [<- HX.out];exact hn0
     have hn:Hid (_=true):=hn0;clear hn0;go_wp2_with (first | (go_at_call 200;refine(cO (s[k]'hlt) _).mono ?_;rintro e w' ⟨rfl,rfl⟩) | (go_at_call 201;refine(cD (s.extract 0 k) _ hxz true hn.out).mono ?_;rintro e w' ⟨rfl,rfl⟩) | (go_at_call 202;refine(dA (s.extract 0 k) _ hxz true hm.out).mono ?_;rintro e w' ⟨rfl,rfl⟩));refine bodyPost_ret (v:=.tuple #[.agg #[.int .i64 4,.string (s.extract 0 k)],.bool true]) (by simp [results,Tryz.results185,go_sem]) rfl ⟨(Below.refl _ _).alloc (Nat.le_refl _) _,_,_,_,rfl,?_⟩;rw [HK.out,bZ];have h1:=HN.out;simp only [eF,Bool.and_eq_true] at h1;rw [if_pos (by simp only [gX,h1.1,h1.2];rfl)];exact .inr ⟨rfl,_,rfl,HX.out,by rw [gE HW.out,if_pos h1.2]⟩
    ·have hn1:eF (s.extract 0 k).data.toList=false:=by simpa only [Bool.not_eq_true] using hn0
     have HN:Hid (eF (s.data.toList.take k)=false):=show eF _=false from by rw [<- HX.out];exact hn1
     have hn:Hid (_=false):=hn1;clear hn0 hn1;by_cases hm0:(Pl.noDig (s.extract 0 k).data.toList&&!(s.extract 0 k).data.toList.isEmpty)=true
     ·have HM:Hid ((Pl.noDig (s.data.toList.take k)&&!(s.data.toList.take k).isEmpty)=true):=show _=true from by rw [<- HX.out];exact hm0
      have hm:Hid (_=true):=hm0;clear hm0;go_wp2_with (first | (go_at_call 200;refine(cO (s[k]'hlt) _).mono ?_;rintro e w' ⟨rfl,rfl⟩) | (go_at_call 201;refine(cD (s.extract 0 k) _ hxz false hn.out).mono ?_;rintro e w' ⟨rfl,rfl⟩) | (go_at_call 202;refine(dA (s.extract 0 k) _ hxz true hm.out).mono ?_;rintro e w' ⟨rfl,rfl⟩));refine bodyPost_ret (v:=.tuple #[.agg #[.int .i64 5,.string (s.extract 0 k)],.bool true]) (by simp [results,Tryz.results185,go_sem]) rfl ⟨(Below.refl _ _).alloc (Nat.le_refl _) _,_,_,_,rfl,?_⟩;rw [HK.out,bZ];have h1:=HM.out;simp only [Bool.and_eq_true] at h1;have h2:Pl.isNum (s.data.toList.take k)=false:=by have:=HN.out;simp only [eF,h1.2,Bool.true_and] at this;exact this
      rw [if_pos (by simp only [gX,h1.1,h1.2,Bool.or_true];rfl)];exact .inr ⟨rfl,_,rfl,HX.out,by rw [gE HW.out,if_neg (by simp [h2])]⟩
     ·have hm1:(Pl.noDig (s.extract 0 k).data.toList&&!(s.extract 0 k).data.toList.isEmpty)=false:=by simpa only [Bool.not_eq_true] using hm0
      have HM:Hid ((Pl.noDig (s.data.toList.take k)&&!(s.data.toList.take k).isEmpty)=false):=show _=false from by rw [<- HX.out];exact hm1
      have hm:Hid (_=false):=hm1;clear hm0 hm1;go_wp2_with (first | (go_at_call 200;refine(cO (s[k]'hlt) _).mono ?_;rintro e w' ⟨rfl,rfl⟩) | (go_at_call 201;refine(cD (s.extract 0 k) _ hxz false hn.out).mono ?_;rintro e w' ⟨rfl,rfl⟩) | (go_at_call 202;refine(dA (s.extract 0 k) _ hxz false hm.out).mono ?_;rintro e w' ⟨rfl,rfl⟩));refine bodyPost_ret (v:=.tuple #[.agg #[.int .i64 0,.string ⟨#[]⟩],.bool false]) (by simp [results,Tryz.results185,go_sem]) rfl ⟨(Below.refl _ _).alloc (Nat.le_refl _) _,_,_,_,rfl,?_⟩;rw [HK.out,bZ];have h1:=HM.out;have h2:=HN.out
      have h3:gX (s.data.toList.take k)=false:=by
       simp only [gX];simp only [eF] at h2
       cases h:(s.data.toList.take k).isEmpty
       ·rw [h] at h1 h2;simp at h1 h2;simp [h1,h2]
       ·rfl
      rw [if_neg (by simp [h3])];exact .inl ⟨rfl,rfl⟩
def pY(bs:List UInt8):Option (List UInt8) :=
 match bs with
 | []=>none
 | c::r=>if c=40 then some [40] else if c=41 then some [41] else if c=39 then some [39] else if c=35 then cF r else bZ (bs.takeWhile inW)
theorem nI(s:ByteArray)(w:World)(hs:s.size<=1000)(c:UInt8)(r:List UInt8)(hr:s.data.toList=c::r) :Calls prog 147 #[.string s] w fun e w'=>FTok w (pY (c::r)) e w':=by
 have hsz:0<s.size:=by
  have:s.data.toList.length=s.size:=by simp
  rw [hr] at this;simp at this;omega
 have hg:s[0]'hsz=c:=by rw [<- bE s 0 hsz];simp [hr]
 by_cases h40:c=40
 ·subst h40;have q1:(((s[0]'hsz).toNat:Int)==40)=true:=by rw [b40,hg];rfl
  clear hg;have HT:=(show Hid ((s.extract 0 1).data.toList=[40]) from ext2 s 1 _ (by rw [hr];rfl))
  clear hr;go_enter func147,ntmps147;go_wp2_with fail;exact bodyPost_ret (v:=.tuple #[.agg #[.int .i64 0,.string (s.extract 0 1)],.bool true]) (by simp [results,Tryz.results147,go_sem]) rfl ⟨(Below.refl _ _).alloc (Nat.le_refl _) _,_,_,_,rfl,.inr ⟨rfl,_,rfl,HT.out,rfl⟩⟩
 have q1:(((s[0]'hsz).toNat:Int)==40)=false:=by rw [b40,hg];simpa using h40
 by_cases h41:c=41
 ·subst h41;have q2:(((s[0]'hsz).toNat:Int)==41)=true:=by rw [b41,hg];rfl
  clear hg h40;have HT:=(show Hid ((s.extract 0 1).data.toList=[41]) from ext2 s 1 _ (by rw [hr];rfl))
  clear hr;go_enter func147,ntmps147;go_wp2_with fail;exact bodyPost_ret (v:=.tuple #[.agg #[.int .i64 1,.string (s.extract 0 1)],.bool true]) (by simp [results,Tryz.results147,go_sem]) rfl ⟨(Below.refl _ _).alloc (Nat.le_refl _) _,_,_,_,rfl,.inr ⟨rfl,_,rfl,HT.out,rfl⟩⟩
 have q2:(((s[0]'hsz).toNat:Int)==41)=false:=by rw [b41,hg];simpa using h41
 by_cases h39:c=39
 ·subst h39;have q3:(((s[0]'hsz).toNat:Int)==39)=true:=by rw [b39,hg];rfl
  clear hg h40 h41;have HT:=(show Hid ((s.extract 0 1).data.toList=[39]) from ext2 s 1 _ (by rw [hr];rfl))
  clear hr;go_enter func147,ntmps147;go_wp2_with fail;exact bodyPost_ret (v:=.tuple #[.agg #[.int .i64 2,.string (s.extract 0 1)],.bool true]) (by simp [results,Tryz.results147,go_sem]) rfl ⟨(Below.refl _ _).alloc (Nat.le_refl _) _,_,_,_,rfl,.inr ⟨rfl,_,rfl,HT.out,rfl⟩⟩
 have q3:(((s[0]'hsz).toNat:Int)==39)=false:=by rw [b39,hg];simpa using h39
 by_cases h35:c=35
 ·subst h35;have q4:(((s[0]'hsz).toNat:Int)==35)=true:=by rw [b35,hg];rfl
  have HR:Hid (_=_):=hr;clear hg h40 h41 h39 hr;go_enter func147,ntmps147;go_wp2_with fail;refine(nH s _ hs r HR.out).mono ?_;rintro e w1 ⟨hB,k1,t1,b1,rfl,hc⟩;have HB:Hid (Below w.heap.size w w1):=((Below.refl _ w).alloc (Nat.le_refl _) _).trans (hB.mono (by simp));have h0:w1.heap[w.heap.size]?=some (.cells #[.int .i64 0,.string ⟨#[]⟩] 288 (0,0)):=(hB.block _ (by simp)).trans (heap_alloc_new _ _);have c0:=aA h0 0;have c1:=aA h0 1;have f0:=aF h0 0;have f1:=aF h0 1;have hw1:w.heap.size<w1.heap.size:=aB h0;have HC:Hid _:=hc;clear hB hc h0;go_wp2_with fail;refine bodyPost_ret (v:=.tuple #[.agg #[.int .i64 k1,.string t1],.bool b1]) (by simp [results,Tryz.results147,go_sem,c0,c1]) rfl ⟨(HB.out.setCell (Nat.le_refl _) _).setCell (Nat.le_refl _) _,_,_,_,rfl,HC.out⟩
 ·have q4:(((s[0]'hsz).toNat:Int)==35)=false:=by rw [b35,hg];simpa using h35
  have HS:Hid (pY (c::r)=bZ ((c::r).takeWhile inW)):=show pY _=_ from by unfold pY;dsimp only;rw [if_neg h40,if_neg h41,if_neg h39,if_neg h35]
  have HR:Hid (_=_):=hr;clear hg h40 h41 h39 h35 hr;go_enter func147,ntmps147;go_wp2_with fail;refine(oZ s _ hs).mono ?_;rw [HR.out,<-HS.out];rintro e w1 ⟨hB,k1,t1,b1,rfl,hc⟩;have HB:Hid (Below w.heap.size w w1):=((Below.refl _ w).alloc (Nat.le_refl _) _).trans (hB.mono (by simp));have h0:w1.heap[w.heap.size]?=some (.cells #[.int .i64 0,.string ⟨#[]⟩] 288 (0,0)):=(hB.block _ (by simp)).trans (heap_alloc_new _ _);have c0:=aA h0 0;have c1:=aA h0 1;have f0:=aF h0 0;have f1:=aF h0 1;have hw1:w.heap.size<w1.heap.size:=aB h0;have HC:Hid _:=hc;clear hB hc h0;go_wp2_with fail;refine bodyPost_ret (v:=.tuple #[.agg #[.int .i64 k1,.string t1],.bool b1]) (by simp [results,Tryz.results147,go_sem,c0,c1]) rfl ⟨(HB.out.setCell (Nat.le_refl _) _).setCell (Nat.le_refl _) _,_,_,_,rfl,HC.out⟩
def aY(s:ByteArray)(code:Int):Value:=.iface 251 (.agg #[.string s,.iface 128 (.int .i64 code)])
theorem bJ(s:ByteArray)(code:Int)(w:World):Calls prog 78 #[.string s,.int .i64 code] w fun e w'=>e=.returned (aY s code)/\w=w':=by
 go_enter func78,ntmps78
 go_wp2
 go_ret;exact⟨rfl,rfl⟩
end
end Go.Proofs.YtkgbdddkcjpgfaaGreatDoor
