import Derived.Lib.Bytealg
import Derived.Lib.Strings
import Derived.Lib.IndexBytes
import Derived.Test.YtkgbdddkcjpgfaaGreatDoorT05
namespace Go.Proofs.YtkgbdddkcjpgfaaGreatDoor
set_option maxHeartbeats 2000000
set_option maxRecDepth 100000
open Go.Proofs.Tryz
open Pl (CV A3)
section
open Go.RowKit
theorem bX(c:UInt8)(w:World) :Calls prog 214 #[.int .u8 (c.toNat:Int)] w fun e a=>e=.returned (.bool (A3 c))/\w=a:=by
 by_cases b:(48:Int)<=c.toNat
 ·by_cases d:(c.toNat:Int)<=57
  ·go_enter func214,ntmps214
   go_wp2
   go_ret;exact⟨by simp [A3];omega,rfl⟩
  ·go_enter func214,ntmps214
   go_wp2
   go_ret;exact⟨by simp [A3];omega,rfl⟩
 ·go_enter func214,ntmps214
  go_wp2
  go_ret;exact⟨by simp [A3];omega,rfl⟩
theorem nG(c:UInt8)(w:World) :Calls prog 146 #[.int .u8 (c.toNat:Int)] w fun e f=>e=.returned (.bool (Pl.blank c))/\w=f:=by
 by_cases b:(c==32)=true
 ·have g:((c.toNat:Int)==32)=true:=by rw [b32];exact b
  have d:Hid (Pl.blank c=true):=by simp [Hid,Pl.blank,b]
  clear b;go_enter func146,ntmps146;go_wp2;go_ret;exact⟨aP d.symm,rfl⟩
 ·have a:(c==32)=false:=by simpa using b
  have g:((c.toNat:Int)==32)=false:=by rw [b32];exact a
  have d:Hid (Pl.blank c=((c.toNat:Int)==10)):=by simp [Hid,Pl.blank,a,b10]
  clear b a;go_enter func146,ntmps146;go_wp2;go_ret;exact⟨aP d.symm,rfl⟩
theorem UD(c:UInt8):∀l:List UInt8,(0<=Lib.indexByte l c)↔c∈l
 | []=>by simp [Lib.indexByte]
 | b::l=>by
  have d:=UD c l;have f:=Lib.indexByte_ge l c;unfold Lib.indexByte;by_cases a:b=c
  ·simp [a]
  ·rw [if_neg (by simpa using a)];by_cases e:Lib.indexByte l c=-1
   ·rw [if_pos (by simpa using e)];have:¬c∈l:=fun h=>by have:=d.2 h;omega
    simp only [List.mem_cons,this,or_false];constructor
    ·intro h;omega
    ·intro h;exact absurd h.symm a
   ·rw [if_neg (by simpa using e)];have:c∈l:=d.1 (by omega);simp only [List.mem_cons,this,or_true,iff_true];omega
theorem jJ(s:ByteArray)(c:Int)(w:World) :Calls prog 215 #[.string s,.int .u8 c] w fun e a=>e=.returned (.int .i64 (Lib.indexByte s.data.toList c.toNat.toUInt8))/\w=a:=by
 go_enter func215,ntmps215
 go_wp2
 rw [run_callFunc_extern func234 (by kernel_rfl) (by kernel_rfl) (by kernel_rfl) (e:=Extern.BytealgIndexByte.indexByte) (by kernel_rfl),Lib.run_indexByteString];simp only [Result.andThen];rw [Oper.upon_value];go_wp2;go_ret;exact⟨rfl,rfl⟩
theorem wH(c:UInt8):Lib.indexByte (ByteArray.mk #[43,45,42,47,60,61,62,63,33]).data.toList ((c.toNat:Int).toNat.toUInt8)=Lib.indexByte Pl.EZ c:=by
 have:((c.toNat:Int).toNat.toUInt8)=c:=by simp
 rw [this];rfl
theorem cO(c:UInt8)(w:World) :Calls prog 200 #[.int .u8 (c.toNat:Int)] w fun e b=>e=.returned (.bool (CV c))/\w=b:=by
 by_cases a:(97:Int)<=c.toNat/\(c.toNat:Int)<=122
 ·obtain⟨a,m⟩:=a;have d:Hid (CV c=true):=by simp [Hid,CV,Pl.QM c a m]
  go_enter func200,ntmps200
  go_wp2
  go_ret;exact⟨aP d.symm,rfl⟩
 ·have i:Hid (CV c=(decide (c∈Pl.EZ)||A3 c)):=by simp [Hid,CV,Pl.PM c a]
  have l:Hid (decide (0<=Lib.indexByte Pl.EZ c)=decide (c∈Pl.EZ)):=by simp only [Hid];exact decide_eq_decide.2 (UD c Pl.EZ)
  by_cases j:A3 c=true
  ·have d:Hid (CV c=true):=show CV c=true from by rw [i.out,j,Bool.or_true]
   by_cases f:(97:Int)<=c.toNat
   ·have g:¬(c.toNat:Int)<=122:=fun h=>a ⟨f,h⟩;clear a;go_enter func200,ntmps200;go_wp2_with (go_at_call 214;refine(bX c _).mono ?_;rintro e b ⟨rfl,rfl⟩);go_ret;exact⟨aP d.symm,rfl⟩
   ·clear a;go_enter func200,ntmps200;go_wp2_with (go_at_call 214;refine(bX c _).mono ?_;rintro e b ⟨rfl,rfl⟩);go_ret;exact⟨aP d.symm,rfl⟩
  ·have k:A3 c=false:=by simpa using j
   have d:Hid (CV c=decide (0<=Lib.indexByte Pl.EZ c)):=show CV c=_ from by rw [i.out,k,Bool.or_false,l.out]
   clear j i l;by_cases f:(97:Int)<=c.toNat
   ·have g:¬(c.toNat:Int)<=122:=fun h=>a ⟨f,h⟩;clear a;go_enter func200,ntmps200;go_wp2_with (first | (go_at_call 214;refine(bX c _).mono ?_;rintro e b ⟨rfl,rfl⟩) | (go_at_call 215;refine(jJ _ _ _).mono ?_;rw [wH];rintro e b ⟨rfl,rfl⟩));go_ret;exact⟨aP d.symm,rfl⟩
   ·clear a;go_enter func200,ntmps200;go_wp2_with (first | (go_at_call 214;refine(bX c _).mono ?_;rintro e b ⟨rfl,rfl⟩) | (go_at_call 215;refine(jJ _ _ _).mono ?_;rw [wH];rintro e b ⟨rfl,rfl⟩));go_ret;exact⟨aP d.symm,rfl⟩
def eF(w:List UInt8):Bool:=!w.isEmpty&&Pl.isNum w
theorem vJ(r:List UInt8):eF (45::r)=(!r.isEmpty&&r.all A3):=by
 cases r with
 | nil=>decide
 | cons c q =>
  have a:Pl.minus (45::c::q)=true:=by simp [Pl.minus]
  simp [eF,Pl.isNum,Pl.EY,a]
theorem vI(w:List UInt8)(h:¬w.head? = some 45):eF w=(!w.isEmpty&&w.all A3):=by
 have a:Pl.minus w=false:=by
  cases w with
  | nil=>rfl
  | cons c q =>simp only [List.head?_cons,o_] at h;simp [Pl.minus,h]
 simp [eF,Pl.isNum,Pl.EY,a]
theorem dB(s:ByteArray)(k:Nat):(s.extract 0 k).toList=s.data.toList.take k:=by rw [Lib.toList_data,eP];simp
theorem sI(s:ByteArray)(w:World)(L:s.size<=1000) :Calls prog 201 #[.string s] w fun e t=>e=.returned (.bool (eF s.data.toList))/\w=t:=by
 by_cases f:s.data.toList.head? = some 45
 ·obtain⟨r,B⟩:∃r,s.data.toList=45::r:=by
   cases h:s.data.toList with
   | nil=>rw [h] at f;simp at f
   | cons c q=>rw [h] at f;simp at f;exact⟨q,by rw [f]⟩
  have u:1<=s.size:=by have:=congrArg List.length B;simp at this;omega
  have I:((s.extract 0 1).toList==[45])=true:=by rw [dB,B];rfl
  have F:=h_ B;clear f B;go_enter func201,ntmps201;go_wp2;obtain⟨d,o⟩:∃d,d=s.extract 1 s.size:=⟨_,rfl⟩
  have v:d.data.toList=r:=by rw [o,Lib.extract_to_end,F.out];rfl
  have x:Hid (eF s.data.toList=(!d.data.toList.isEmpty&&d.data.toList.all A3)):=show eF _=_ from by rw [F.out,v];exact vJ r
  have J:d.size<=1000:=by rw [o];simp;omega
  rw [<- o,show s.size-1=d.size from by rw [o];simp];clear o v
  go_loopw [9] (fun i y=>∃k:Nat,k<=d.size/\i=.int .i64 k/\w=y/\Hid (∀j (h:j<d.data.toList.length),j<k->A3 d.data.toList[j]=true)) (fun i _=>d.size-(intOf i).toNat)
  case atStart=>exact⟨0,Nat.zero_le _,rfl,rfl,fun j _ C=>by omega⟩
  case round =>
   obtain⟨k,K,rfl,rfl,l⟩:=hrel;by_cases a:k<d.size
   ·have m:=bE d k a;have z:(k:Int)<(d.size:Int):=by omega
    by_cases b:A3 (d[k]'a)=true
    ·have p:Hid (∀j (h:j<d.data.toList.length),j<k+1->A3 d.data.toList[j]=true):=by
      intro j h C;by_cases e:j=k
      ·subst e;rw [m];exact b
      ·exact l.out j h (by omega)
     clear m l;go_wp2_with (go_at_call 214;refine(bX (d[k]'a) _).mono ?_;rintro e t ⟨rfl,rfl⟩)
     go_roundw
     case rel=>(repeat apply Exists.intro);exact⟨⟨k+1,by omega,by go_num,trivial,p⟩,rfl⟩
     case measure=>simp [intOf];omega
    ·have g:A3 (d[k]'a)=false:=by simpa using b
     have n:Hid (eF s.data.toList=false):=show eF _=false from by rw [x.out,Pl.GJ _ k (by simpa using a) (by rw [m];exact g),Bool.and_false]
     clear m l b;go_wp2_with (go_at_call 214;refine(bX (d[k]'a) _).mono ?_;rintro e t ⟨rfl,rfl⟩);go_ret;exact⟨aP n.symm,rfl⟩
   ·have n:Hid (eF s.data.toList=!d.data.toList.isEmpty):=show eF _=_ from by
     rw [x.out,Pl.I2 _ fun j h=>l.out j h (by simp at h;omega),Bool.and_true]
    go_wp2
    go_ret;exact⟨aP (by rw [n.out,<-Lib.toList_data]),rfl⟩
 ·have A:Hid (eF s.data.toList=(!s.data.toList.isEmpty&&s.data.toList.all A3)):=vI _ f;by_cases G:s.size=0
  ·have u:¬(1:Int)<=(s.size:Int):=by omega
   clear f;go_enter func201,ntmps201;go_wp2;have D:s.data.toList=[]:=e_ (by simpa using G);have n:Hid (eF s.data.toList=false):=show eF _=false from by rw [D];rfl
   have E:Hid (s.toList=[]):=show s.toList=[] from by rw [Lib.toList_data];exact D
   clear A D
   go_loopw [9] (fun i y=>i=.int .i64 0/\w=y) (fun _ _=>0)
   case atStart=>exact⟨rfl,rfl⟩
   case round =>obtain⟨rfl,rfl⟩:=hrel;go_wp2;go_ret;exact⟨aP (by rw [n.out,E.out];rfl),rfl⟩
  ·have u:1<=s.size:=by omega
   have I:((s.extract 0 1).toList==[45])=false:=by
    rw [dB]
    cases h:s.data.toList with
    | nil =>
     have H:s.data.toList.length=s.size:=by simp
     rw [h] at H;simp at H;omega
    | cons c q=>rw [h] at f;simpa using f
   clear f G;go_enter func201,ntmps201;go_wp2;obtain⟨d,o⟩:∃d,d=s:=⟨_,rfl⟩
   subst o;have x:=A
   go_loopw [9] (fun i y=>∃k:Nat,k<=d.size/\i=.int .i64 k/\w=y/\Hid (∀j (h:j<d.data.toList.length),j<k->A3 d.data.toList[j]=true)) (fun i _=>d.size-(intOf i).toNat)
   case atStart=>exact⟨0,Nat.zero_le _,rfl,rfl,fun j _ C=>by omega⟩
   case round =>
    obtain⟨k,K,rfl,rfl,l⟩:=hrel;by_cases a:k<d.size
    ·have m:=bE d k a;have z:(k:Int)<(d.size:Int):=by omega
     by_cases b:A3 (d[k]'a)=true
     ·have p:Hid (∀j (h:j<d.data.toList.length),j<k+1->A3 d.data.toList[j]=true):=by
       intro j h C;by_cases e:j=k
       ·subst e;rw [m];exact b
       ·exact l.out j h (by omega)
      clear m l;go_wp2_with (go_at_call 214;refine(bX (d[k]'a) _).mono ?_;rintro e t ⟨rfl,rfl⟩)
      go_roundw
      case rel=>(repeat apply Exists.intro);exact⟨⟨k+1,by omega,by go_num,trivial,p⟩,rfl⟩
      case measure=>simp [intOf];omega
     ·have g:A3 (d[k]'a)=false:=by simpa using b
      have n:Hid (eF d.data.toList=false):=show eF _=false from by rw [x.out,Pl.GJ _ k (by simpa using a) (by rw [m];exact g),Bool.and_false]
      clear m l b;go_wp2_with (go_at_call 214;refine(bX (d[k]'a) _).mono ?_;rintro e t ⟨rfl,rfl⟩);go_ret;exact⟨aP n.symm,rfl⟩
    ·have n:Hid (eF d.data.toList=!d.data.toList.isEmpty):=show eF _=_ from by
      rw [x.out,Pl.I2 _ fun j h=>l.out j h (by simp at h;omega),Bool.and_true]
     go_wp2
     go_ret;exact⟨aP (by rw [n.out,<-Lib.toList_data]),rfl⟩
theorem yT(s:ByteArray)(w:World)(q:s.size<=1000) :Calls prog 202 #[.string s] w fun e g=>e=.returned (.bool (Pl.DZ s.data.toList&&!s.data.toList.isEmpty))/\w=g:=by
 go_enter func202,ntmps202
 go_wp2
 go_loopw [6] (fun i o=>∃k:Nat,k<=s.size/\i=.int .i64 k/\w=o/\Hid (∀j (h:j<s.data.toList.length),j<k->(!A3 s.data.toList[j])=true)) (fun i _=>s.size-(intOf i).toNat)
 case atStart=>exact⟨0,Nat.zero_le _,rfl,rfl,fun j _ p=>by omega⟩
 case round =>
  obtain⟨k,r,rfl,rfl,d⟩:=hrel;by_cases a:k<s.size
  ·have f:=bE s k a;have n:(k:Int)<(s.size:Int):=by omega
   by_cases b:A3 (s[k]'a)=true
   ·have l:Hid (Pl.DZ s.data.toList=false):=Pl.GJ _ k (by simpa using a) (by rw [f,b];rfl);clear f d;go_wp2_with (go_at_call 214;refine(bX (s[k]'a) _).mono ?_;rintro e g ⟨rfl,rfl⟩);go_ret;exact⟨aP (by rw [l.out];rfl),rfl⟩
   ·have c:A3 (s[k]'a)=false:=by simpa using b
    have m:Hid (∀j (h:j<s.data.toList.length),j<k+1->(!A3 s.data.toList[j])=true):=by
     intro j h p;by_cases e:j=k
     ·subst e;rw [f,c];rfl
     ·exact d.out j h (by omega)
    clear f d b;go_wp2_with (go_at_call 214;refine(bX (s[k]'a) _).mono ?_;rintro e g ⟨rfl,rfl⟩);exact⟨⟨k+1,by omega,by go_num,trivial,m⟩,by simp [intOf];omega⟩
  ·have l:Hid (Pl.DZ s.data.toList=true):=Pl.I2 _ fun j h=>d.out j h (by simp at h;omega);go_wp2;go_ret;exact⟨aP (by rw [l.out,Bool.true_and,<-Lib.toList_data]),rfl⟩
def cE(t:List UInt8):Int:=if t=[40] then 0 else if t=[41] then 1 else if t=[39] then 2 else if t=[35,116]\/t=[35,102] then 3 else if Pl.isNum t then 4 else 5
def FTok(w:World)(r:Option (List UInt8))(e:Ending)(w':World):Prop :=
 Below w.heap.size w w'/\∃(k:Int)(t:ByteArray)(b:Bool),e=.returned (.tuple #[.agg #[.int .i64 k,.string t],.bool b]) /\
  ((r=none/\b=false)\/(b=true/\∃l,r=some l/\t.data.toList=l/\k=cE l))
def cF(r:List UInt8):Option (List UInt8) :=
 match r with
 | []=>none
 | d::_=>if(d==116||d==102)=true then some [35,d] else none
theorem RL(s:ByteArray)(k:Nat)(l:List UInt8)(h:s.data.toList.take k=l):(s.extract 0 k).data.toList=l:=by rw [eP];simpa using h
theorem nH(s:ByteArray)(w:World)(o:s.size<=1000)(r:List UInt8)(f:s.data.toList=35::r) :Calls prog 184 #[.string s] w fun e j=>FTok w (cF r) e j:=by
 have c:s.data.toList.length=s.size:=by simp
 cases r with
 | nil =>
  rw [f] at c;have k:¬(2:Int)<=(s.size:Int):=by simp at c;omega
  clear c f;go_enter func184,ntmps184;go_wp2;exact bodyPost_ret (v:=.tuple #[.agg #[.int .i64 0,.string (⟨#[]⟩:ByteArray)],.bool false]) (by simp [results,Tryz.results184,go_sem]) rfl ⟨b_,_,_,_,rfl,.inl ⟨rfl,rfl⟩⟩
 | cons d q =>
  rw [f] at c;have k:2<=s.size:=by simp at c;omega
  have a:s.data.toList.take 2=[35,d]:=by rw [f];rfl
  by_cases g:d=116
  ·subst g;have l:((s.extract 0 2).toList==[35,116])=true:=by rw [dB,a];rfl
   have i:Hid (_=_):=RL s 2 _ a;clear c f a;go_enter func184,ntmps184;go_wp2;exact bodyPost_ret (v:=.tuple #[.agg #[.int .i64 3,.string (s.extract 0 2)],.bool true]) (by simp [results,Tryz.results184,go_sem]) rfl ⟨b_,_,_,_,rfl,.inr ⟨rfl,_,rfl,i,rfl⟩⟩
  ·have l:((s.extract 0 2).toList==[35,116])=false:=by rw [dB,a];simpa using g
   by_cases b:d=102
   ·subst b;have m:((s.extract 0 2).toList==[35,102])=true:=by rw [dB,a];rfl
    have i:Hid (_=_):=RL s 2 _ a;clear c f a g;go_enter func184,ntmps184;go_wp2;exact bodyPost_ret (v:=.tuple #[.agg #[.int .i64 3,.string (s.extract 0 2)],.bool true]) (by simp [results,Tryz.results184,go_sem]) rfl ⟨b_,_,_,_,rfl,.inr ⟨rfl,_,rfl,i,rfl⟩⟩
   ·have m:((s.extract 0 2).toList==[35,102])=false:=by rw [dB,a];simpa using b
    have h:(d==116||d==102)=false:=by simp [g,b]
    have n:Hid (cF (d::q)=none):=show cF _=none from by unfold cF;simp [h]
    clear c f a g b h;go_enter func184,ntmps184;go_wp2;exact bodyPost_ret (v:=.tuple #[.agg #[.int .i64 0,.string (⟨#[]⟩:ByteArray)],.bool false]) (by simp [results,Tryz.results184,go_sem]) rfl ⟨b_,_,_,_,rfl,.inl ⟨n,rfl⟩⟩
theorem mH(l:List UInt8)(h:∀c∈l,CV c=true):¬l=[40]/\¬l=[41]/\¬l=[39]/\¬(l=[35,116]\/l=[35,102]):=by
 refine⟨?_,?_,?_,?_⟩
 ·rintro rfl;exact absurd (h 40 (by simp)) (by decide)
 ·rintro rfl;exact absurd (h 41 (by simp)) (by decide)
 ·rintro rfl;exact absurd (h 39 (by simp)) (by decide)
 ·rintro(rfl | rfl)<;>exact absurd (h 35 (by simp)) (by decide)
theorem gB(p:UInt8->Bool):∀(l:List UInt8)(c:UInt8),c∈l.takeWhile p->p c=true
 | [],_,h=>by simp at h
 | x::r,c,h=>by
  by_cases a:p x=true
  ·rw [List.takeWhile_cons,if_pos a] at h;rcases List.mem_cons.1 h with rfl | h
   ·exact a
   ·exact gB p r c h
  ·rw [List.takeWhile_cons,if_neg a] at h;simp at h
def gX(l:List UInt8):Bool:=!l.isEmpty&&(Pl.isNum l||Pl.DZ l)
def bZ(l:List UInt8):Option (List UInt8):=if gX l then some l else none
theorem gE{l:List UInt8}(h:∀c∈l,CV c=true):cE l=if Pl.isNum l then 4 else 5:=by obtain⟨a,b,d,e⟩:=mH l h;unfold cE;rw [if_neg a,if_neg b,if_neg d,if_neg e]
theorem cD(s:ByteArray)(w:World)(a:s.size<=1000)(b:Bool)(h:eF s.data.toList=b):Calls prog 201 #[.string s] w fun e c=>e=.returned (.bool b)/\w=c:=by subst h;exact sI s w a
theorem dA(s:ByteArray)(w:World)(a:s.size<=1000)(b:Bool)(h:(Pl.DZ s.data.toList&&!s.data.toList.isEmpty)=b):Calls prog 202 #[.string s] w fun e c=>e=.returned (.bool b)/\w=c:=by subst h;exact yT s w a
theorem oZ(s:ByteArray)(w:World)(L:s.size<=1000) :Calls prog 185 #[.string s] w fun e l=>FTok w (bZ (s.data.toList.takeWhile CV)) e l:=by
 go_enter func185,ntmps185
 go_wp2_with fail
 go_loopw [4] (fun i H=>∃k:Nat,k<=s.size/\i=.int .i64 k/\H=w.alloc (.cells #[.int .i64 0,.string ⟨#[]⟩] 288)/\Hid (∀j (h:j<s.data.toList.length),j<k->CV s.data.toList[j]=true)) (fun i _=>s.size-(intOf i).toNat)
 case atStart=>exact⟨0,Nat.zero_le _,rfl,rfl,fun j _ D=>by omega⟩
 case round =>
  obtain⟨k,I,rfl,rfl,B⟩:=hrel;have J:w.heap.size<(w.alloc (.cells #[.int .i64 0,.string ⟨#[]⟩] 288)).heap.size:=by simp
  by_cases A:∃a:k<s.size,CV (s[k]'a)=true
  ·obtain⟨a,u⟩:=A;have G:=bE s k a
   have E:Hid (∀j (h:j<s.data.toList.length),j<k+1->CV s.data.toList[j]=true):=by
    intro j h D;by_cases e:j=k
    ·subst e;rw [G];exact u
    ·exact B.out j h (by omega)
   clear G B;go_wp2_with (go_at_call 200;refine(cO (s[k]'a) _).mono ?_;rintro e l ⟨rfl,rfl⟩);exact⟨⟨k+1,by omega,by go_num,trivial,E⟩,by simp [intOf];omega⟩
  ·have x:s.data.toList.takeWhile CV=s.data.toList.take k:=(Pl.G8 CV s.data.toList k (by simpa using I) (fun j h D=>B.out j h D) (fun h=>by
    have a:k<s.size:=by simpa using h
    rw [bE s k a];by_cases u:CV (s[k]'a)=true
    ·exact absurd ⟨a,u⟩ A
    ·simpa using u)).1
   have C:Hid (∀c∈s.data.toList.take k,CV c=true):=by rw [<- x];exact gB _ _
   have z:=h_ x;have p:Hid ((s.extract 0 k).data.toList=s.data.toList.take k):=RL s k _ rfl;have d:(s.extract 0 k).size<=1000:=by simp;omega
   clear x B;by_cases a:k<s.size
   ·have K:CV (s[k]'a)=false:=by
     by_cases u:CV (s[k]'a)=true
     ·exact absurd ⟨a,u⟩ A
     ·simpa using u
    clear A;by_cases f:eF (s.extract 0 k).data.toList=true
    ·have q:Hid (eF (s.data.toList.take k)=true):=show eF _=true from by rw [<- p.out];exact f
     have r:=h_ f;clear f;go_wp2_with (first | (go_at_call 200;refine(cO (s[k]'a) _).mono ?_;rintro e l ⟨rfl,rfl⟩) | (go_at_call 201;refine(cD (s.extract 0 k) _ d true r).mono ?_;rintro e l ⟨rfl,rfl⟩) | (go_at_call 202;refine(dA (s.extract 0 k) _ d true t).mono ?_;rintro e l ⟨rfl,rfl⟩));refine bodyPost_ret (v:=.tuple #[.agg #[.int .i64 4,.string (s.extract 0 k)],.bool true]) (by simp [results,Tryz.results185,go_sem]) rfl ⟨b_,_,_,_,rfl,?_⟩;rw [z.out,bZ];have b:=q.out;simp only [eF,Bool.and_eq_true] at b;rw [if_pos (by simp only [gX,b.1,b.2];rfl)];exact .inr ⟨rfl,_,rfl,p,by rw [gE C.out,if_pos b.2]⟩
    ·have m:eF (s.extract 0 k).data.toList=false:=by simpa only [Bool.not_eq_true] using f
     have q:Hid (eF (s.data.toList.take k)=false):=show eF _=false from by rw [<- p.out];exact m
     have r:=h_ m;clear f m;by_cases g:(Pl.DZ (s.extract 0 k).data.toList&&!(s.extract 0 k).data.toList.isEmpty)=true
     ·have y:Hid ((Pl.DZ (s.data.toList.take k)&&!(s.data.toList.take k).isEmpty)=true):=show _=true from by rw [<- p.out];exact g
      have t:=h_ g;clear g;go_wp2_with (first | (go_at_call 200;refine(cO (s[k]'a) _).mono ?_;rintro e l ⟨rfl,rfl⟩) | (go_at_call 201;refine(cD (s.extract 0 k) _ d false r).mono ?_;rintro e l ⟨rfl,rfl⟩) | (go_at_call 202;refine(dA (s.extract 0 k) _ d true t).mono ?_;rintro e l ⟨rfl,rfl⟩));refine bodyPost_ret (v:=.tuple #[.agg #[.int .i64 5,.string (s.extract 0 k)],.bool true]) (by simp [results,Tryz.results185,go_sem]) rfl ⟨b_,_,_,_,rfl,?_⟩;rw [z.out,bZ];have b:=y.out;simp only [Bool.and_eq_true] at b;have o:Pl.isNum (s.data.toList.take k)=false:=by have:=q.out;simp only [eF,b.2,Bool.true_and] at this;exact this
      rw [if_pos (by simp only [gX,b.1,b.2,Bool.or_true];rfl)];exact .inr ⟨rfl,_,rfl,p,by rw [gE C.out,if_neg (by simp [o])]⟩
     ·have n:(Pl.DZ (s.extract 0 k).data.toList&&!(s.extract 0 k).data.toList.isEmpty)=false:=by simpa only [Bool.not_eq_true] using g
      have y:Hid ((Pl.DZ (s.data.toList.take k)&&!(s.data.toList.take k).isEmpty)=false):=show _=false from by rw [<- p.out];exact n
      have t:=h_ n;clear g n;go_wp2_with (first | (go_at_call 200;refine(cO (s[k]'a) _).mono ?_;rintro e l ⟨rfl,rfl⟩) | (go_at_call 201;refine(cD (s.extract 0 k) _ d false r).mono ?_;rintro e l ⟨rfl,rfl⟩) | (go_at_call 202;refine(dA (s.extract 0 k) _ d false t).mono ?_;rintro e l ⟨rfl,rfl⟩));refine bodyPost_ret (v:=.tuple #[.agg #[.int .i64 0,.string ⟨#[]⟩],.bool false]) (by simp [results,Tryz.results185,go_sem]) rfl ⟨b_,_,_,_,rfl,?_⟩;rw [z.out,bZ];have b:=y.out;have o:=q.out
      have F:gX (s.data.toList.take k)=false:=by
       simp only [gX];simp only [eF] at o
       cases h:(s.data.toList.take k).isEmpty
       ·rw [h] at b o;simp at b o;simp [b,o]
       ·rfl
      rw [if_neg (by simp [F])];exact .inl ⟨rfl,rfl⟩
   ·clear A;by_cases f:eF (s.extract 0 k).data.toList=true
    ·have q:Hid (eF (s.data.toList.take k)=true):=show eF _=true from by rw [<- p.out];exact f
     have r:=h_ f;clear f;go_wp2_with (first | (go_at_call 200;refine(cO (s[k]'a) _).mono ?_;rintro e l ⟨rfl,rfl⟩) | (go_at_call 201;refine(cD (s.extract 0 k) _ d true r).mono ?_;rintro e l ⟨rfl,rfl⟩) | (go_at_call 202;refine(dA (s.extract 0 k) _ d true t).mono ?_;rintro e l ⟨rfl,rfl⟩));refine bodyPost_ret (v:=.tuple #[.agg #[.int .i64 4,.string (s.extract 0 k)],.bool true]) (by simp [results,Tryz.results185,go_sem]) rfl ⟨b_,_,_,_,rfl,?_⟩;rw [z.out,bZ];have b:=q.out;simp only [eF,Bool.and_eq_true] at b;rw [if_pos (by simp only [gX,b.1,b.2];rfl)];exact .inr ⟨rfl,_,rfl,p,by rw [gE C.out,if_pos b.2]⟩
    ·have m:eF (s.extract 0 k).data.toList=false:=by simpa only [Bool.not_eq_true] using f
     have q:Hid (eF (s.data.toList.take k)=false):=show eF _=false from by rw [<- p.out];exact m
     have r:=h_ m;clear f m;by_cases g:(Pl.DZ (s.extract 0 k).data.toList&&!(s.extract 0 k).data.toList.isEmpty)=true
     ·have y:Hid ((Pl.DZ (s.data.toList.take k)&&!(s.data.toList.take k).isEmpty)=true):=show _=true from by rw [<- p.out];exact g
      have t:=h_ g;clear g;go_wp2_with (first | (go_at_call 200;refine(cO (s[k]'a) _).mono ?_;rintro e l ⟨rfl,rfl⟩) | (go_at_call 201;refine(cD (s.extract 0 k) _ d false r).mono ?_;rintro e l ⟨rfl,rfl⟩) | (go_at_call 202;refine(dA (s.extract 0 k) _ d true t).mono ?_;rintro e l ⟨rfl,rfl⟩));refine bodyPost_ret (v:=.tuple #[.agg #[.int .i64 5,.string (s.extract 0 k)],.bool true]) (by simp [results,Tryz.results185,go_sem]) rfl ⟨b_,_,_,_,rfl,?_⟩;rw [z.out,bZ];have b:=y.out;simp only [Bool.and_eq_true] at b;have o:Pl.isNum (s.data.toList.take k)=false:=by have:=q.out;simp only [eF,b.2,Bool.true_and] at this;exact this
      rw [if_pos (by simp only [gX,b.1,b.2,Bool.or_true];rfl)];exact .inr ⟨rfl,_,rfl,p,by rw [gE C.out,if_neg (by simp [o])]⟩
     ·have n:(Pl.DZ (s.extract 0 k).data.toList&&!(s.extract 0 k).data.toList.isEmpty)=false:=by simpa only [Bool.not_eq_true] using g
      have y:Hid ((Pl.DZ (s.data.toList.take k)&&!(s.data.toList.take k).isEmpty)=false):=show _=false from by rw [<- p.out];exact n
      have t:=h_ n;clear g n;go_wp2_with (first | (go_at_call 200;refine(cO (s[k]'a) _).mono ?_;rintro e l ⟨rfl,rfl⟩) | (go_at_call 201;refine(cD (s.extract 0 k) _ d false r).mono ?_;rintro e l ⟨rfl,rfl⟩) | (go_at_call 202;refine(dA (s.extract 0 k) _ d false t).mono ?_;rintro e l ⟨rfl,rfl⟩));refine bodyPost_ret (v:=.tuple #[.agg #[.int .i64 0,.string ⟨#[]⟩],.bool false]) (by simp [results,Tryz.results185,go_sem]) rfl ⟨b_,_,_,_,rfl,?_⟩;rw [z.out,bZ];have b:=y.out;have o:=q.out
      have F:gX (s.data.toList.take k)=false:=by
       simp only [gX];simp only [eF] at o
       cases h:(s.data.toList.take k).isEmpty
       ·rw [h] at b o;simp at b o;simp [b,o]
       ·rfl
      rw [if_neg (by simp [F])];exact .inl ⟨rfl,rfl⟩
def pY(bs:List UInt8):Option (List UInt8) :=
 match bs with
 | []=>none
 | c::r=>if c=40 then some [40] else if c=41 then some [41] else if c=39 then some [39] else if c=35 then cF r else bZ (bs.takeWhile CV)
theorem nI(s:ByteArray)(w:World)(B:s.size<=1000)(c:UInt8)(r:List UInt8)(h:s.data.toList=c::r) :Calls prog 147 #[.string s] w fun e C=>FTok w (pY (c::r)) e C:=by
 have a:0<s.size:=by
  have:s.data.toList.length=s.size:=by simp
  rw [h] at this;simp at this;omega
 have d:s[0]'a=c:=by rw [<- bE s 0 a];simp [h]
 by_cases b:c=40
 ·subst b;have D:(((s[0]'a).toNat:Int)==40)=true:=by rw [b40,d];rfl
  clear d;have m:=(show Hid ((s.extract 0 1).data.toList=[40]) from RL s 1 _ (by rw [h];rfl))
  clear h;go_enter func147,ntmps147;go_wp2_with fail;exact bodyPost_ret (v:=.tuple #[.agg #[.int .i64 0,.string (s.extract 0 1)],.bool true]) (by simp [results,Tryz.results147,go_sem]) rfl ⟨b_,_,_,_,rfl,.inr ⟨rfl,_,rfl,m,rfl⟩⟩
 have D:(((s[0]'a).toNat:Int)==40)=false:=by rw [b40,d];simpa using b
 by_cases f:c=41
 ·subst f;have E:(((s[0]'a).toNat:Int)==41)=true:=by rw [b41,d];rfl
  clear d b;have m:=(show Hid ((s.extract 0 1).data.toList=[41]) from RL s 1 _ (by rw [h];rfl))
  clear h;go_enter func147,ntmps147;go_wp2_with fail;exact bodyPost_ret (v:=.tuple #[.agg #[.int .i64 1,.string (s.extract 0 1)],.bool true]) (by simp [results,Tryz.results147,go_sem]) rfl ⟨b_,_,_,_,rfl,.inr ⟨rfl,_,rfl,m,rfl⟩⟩
 have E:(((s[0]'a).toNat:Int)==41)=false:=by rw [b41,d];simpa using f
 by_cases i:c=39
 ·subst i;have F:(((s[0]'a).toNat:Int)==39)=true:=by rw [b39,d];rfl
  clear d b f;have m:=(show Hid ((s.extract 0 1).data.toList=[39]) from RL s 1 _ (by rw [h];rfl))
  clear h;go_enter func147,ntmps147;go_wp2_with fail;exact bodyPost_ret (v:=.tuple #[.agg #[.int .i64 2,.string (s.extract 0 1)],.bool true]) (by simp [results,Tryz.results147,go_sem]) rfl ⟨b_,_,_,_,rfl,.inr ⟨rfl,_,rfl,m,rfl⟩⟩
 have F:(((s[0]'a).toNat:Int)==39)=false:=by rw [b39,d];simpa using i
 by_cases j:c=35
 ·subst j;have G:(((s[0]'a).toNat:Int)==35)=true:=by rw [b35,d];rfl
  have o:=h_ h;clear d b f i h;go_enter func147,ntmps147;go_wp2_with fail;refine(nH s _ B r o).mono ?_;rintro e k ⟨l,p,q,t,rfl,n⟩;have u:Hid (Below w.heap.size w k):=((Below.refl _ w).alloc n_ _).trans (l.mono (by simp));have g:k.heap[w.heap.size]?=some (.cells #[.int .i64 0,.string ⟨#[]⟩] 288 (0,0)):=(l.block _ (by simp)).trans (heap_alloc_new _ _);have x:=aA g 0;have y:=aA g 1;have H:=aF g 0;have I:=aF g 1;have z:w.heap.size<k.heap.size:=aB g;have A:=h_ n;clear l n g;go_wp2_with fail;refine bodyPost_ret (v:=.tuple #[.agg #[.int .i64 p,.string q],.bool t]) (by simp [results,Tryz.results147,go_sem,x,y]) rfl ⟨(u.setCell n_ _).setCell n_ _,_,_,_,rfl,A⟩
 ·have G:(((s[0]'a).toNat:Int)==35)=false:=by rw [b35,d];simpa using j
  have J:Hid (pY (c::r)=bZ ((c::r).takeWhile CV)):=show pY _=_ from by unfold pY;dsimp only;rw [if_neg b,if_neg f,if_neg i,if_neg j]
  have o:=h_ h;clear d b f i j h;go_enter func147,ntmps147;go_wp2_with fail;refine(oZ s _ B).mono ?_;rw [o.out,<-J.out];rintro e k ⟨l,p,q,t,rfl,n⟩;have u:Hid (Below w.heap.size w k):=((Below.refl _ w).alloc n_ _).trans (l.mono (by simp));have g:k.heap[w.heap.size]?=some (.cells #[.int .i64 0,.string ⟨#[]⟩] 288 (0,0)):=(l.block _ (by simp)).trans (heap_alloc_new _ _);have x:=aA g 0;have y:=aA g 1;have H:=aF g 0;have I:=aF g 1;have z:w.heap.size<k.heap.size:=aB g;have A:=h_ n;clear l n g;go_wp2_with fail;refine bodyPost_ret (v:=.tuple #[.agg #[.int .i64 p,.string q],.bool t]) (by simp [results,Tryz.results147,go_sem,x,y]) rfl ⟨(u.setCell n_ _).setCell n_ _,_,_,_,rfl,A⟩
def aY(s:ByteArray)(code:Int):Value:=.iface 251 (.agg #[.string s,.iface 128 (.int .i64 code)])
theorem bJ(s:ByteArray)(a:Int)(w:World):Calls prog 78 #[.string s,.int .i64 a] w fun e b=>e=.returned (aY s a)/\w=b:=by
 go_enter func78,ntmps78
 go_wp2
 go_ret;exact⟨rfl,rfl⟩
end
end Go.Proofs.YtkgbdddkcjpgfaaGreatDoor
