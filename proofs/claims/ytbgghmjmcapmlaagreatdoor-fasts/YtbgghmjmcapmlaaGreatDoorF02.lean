import Derived.Lib.Bytealg
import Derived.Test.YtbgghmjmcapmlaaGreatDoorF01
import Derived.Lib.Strings
import Derived.Lib.IndexBytes
import Derived.Deep.AppendLies
namespace Go.Proofs.YtbgghmjmcapmlaaGreatDoor
set_option maxHeartbeats 2000000
set_option maxRecDepth 100000
open Go.Proofs.Tryz
open Pl (CV A3)
theorem zB2{P:Prop}(h:P:=by
 clear A;by_cases f:eF (s.extract 0 k).data.toList=true
 ·have q:Hid (eF (s.data.toList.take k)=true):=show eF _=true from by rw [<- p.out];exact f
  have r:=h_ f;clear f;go_wp2_with (first | (go_at_call 132;refine(cO (s[k]'a) _).mono ?_;rintro e l ⟨rfl,rfl⟩) | (go_at_call 133;refine(cD (s.extract 0 k) _ d true r).mono ?_;rintro e l ⟨rfl,rfl⟩) | (go_at_call 134;refine(dA (s.extract 0 k) _ d true t).mono ?_;rintro e l ⟨rfl,rfl⟩));refine bodyPost_ret (v:=.tuple #[.agg #[Q1 4,.string (s.extract 0 k)],.bool true]) zN3 rfl ⟨b_,_,_,_,rfl,?_⟩;rw [z.out,bZ];have b:=q.out;simp only [eF,Bool.and_eq_true] at b;rw [if_pos (by simp only [gX,b.1,b.2];rfl)];exact .inr ⟨rfl,_,rfl,p,by rw [gE C.out,if_pos b.2]⟩
 ·have m:eF (s.extract 0 k).data.toList=false:=by simpa only [Bool.not_eq_true] using f
  have q:Hid (eF (s.data.toList.take k)=false):=show eF _=false from by rw [<- p.out];exact m
  have r:=h_ m;clear f m;by_cases g:(Pl.DZ (s.extract 0 k).data.toList&&!(s.extract 0 k).data.toList.isEmpty)=true
  ·have y:Hid ((Pl.DZ (s.data.toList.take k)&&!(s.data.toList.take k).isEmpty)=true):=show _=true from by rw [<- p.out];exact g
   have t:=h_ g;clear g;go_wp2_with (first | (go_at_call 132;refine(cO (s[k]'a) _).mono ?_;rintro e l ⟨rfl,rfl⟩) | (go_at_call 133;refine(cD (s.extract 0 k) _ d false r).mono ?_;rintro e l ⟨rfl,rfl⟩) | (go_at_call 134;refine(dA (s.extract 0 k) _ d true t).mono ?_;rintro e l ⟨rfl,rfl⟩));refine bodyPost_ret (v:=.tuple #[.agg #[Q1 5,.string (s.extract 0 k)],.bool true]) zN3 rfl ⟨b_,_,_,_,rfl,?_⟩;rw [z.out,bZ];have b:=y.out;simp only [Bool.and_eq_true] at b;have o:Pl.isNum (s.data.toList.take k)=false:=by have:=q.out;simp only [eF,b.2,Bool.true_and] at this;exact this
   rw [if_pos (by simp only [gX,b.1,b.2,Bool.or_true];rfl)];exact .inr ⟨rfl,_,rfl,p,by rw [gE C.out,if_neg (by simp [o])]⟩
  ·have n:(Pl.DZ (s.extract 0 k).data.toList&&!(s.extract 0 k).data.toList.isEmpty)=false:=by simpa only [Bool.not_eq_true] using g
   have y:Hid ((Pl.DZ (s.data.toList.take k)&&!(s.data.toList.take k).isEmpty)=false):=show _=false from by rw [<- p.out];exact n
   have t:=h_ n;clear g n;go_wp2_with (first | (go_at_call 132;refine(cO (s[k]'a) _).mono ?_;rintro e l ⟨rfl,rfl⟩) | (go_at_call 133;refine(cD (s.extract 0 k) _ d false r).mono ?_;rintro e l ⟨rfl,rfl⟩) | (go_at_call 134;refine(dA (s.extract 0 k) _ d false t).mono ?_;rintro e l ⟨rfl,rfl⟩));refine bodyPost_ret (v:=.tuple #[.agg #[Q1 0,.string ⟨#[]⟩],.bool false]) zN3 rfl ⟨b_,_,_,_,rfl,?_⟩;rw [z.out,bZ];have b:=y.out;have o:=q.out
   have F:gX (s.data.toList.take k)=false:=by
    simp only [gX];simp only [eF] at o
    cases h:(s.data.toList.take k).isEmpty
    ·rw [h] at b o;simp at b o;simp [b,o]
    ·rfl
   rw [if_neg (by simp [F])];exact .inl ⟨rfl,rfl⟩):P:=h
theorem zB3{P:Prop}(h:P:=by rintro e k ⟨l,p,q,t,rfl,n⟩;have u:Hid (Q3 w k):=((Below.refl _ w).alloc n_ _).trans (l.mono w9);have g:k.heap[w.heap.size]?=some (.cells #[Q1 0,.string ⟨#[]⟩] 231 (0,0)):=(l.block _ w9).trans (heap_alloc_new _ _);have x:=aA g 0;have y:=aA g 1;have H:=aF g 0;have I:=aF g 1;have z:w.heap.size<k.heap.size:=aB g;have A:=h_ n;clear l n g;go_wp2_with fail;refine bodyPost_ret (v:=.tuple #[.agg #[Q1 p,.string q],.bool t]) (by simp [results,Tryz.results90,go_sem,x,y]) rfl ⟨(u.setCell n_ _).setCell n_ _,_,_,_,rfl,A⟩):P:=h
theorem zB4{P:Prop}(h:P:=by
 have p:Hid (∀j (h:j<d.data.toList.length),j<k+1->A3 d.data.toList[j]=true):=by
  intro j h C;by_cases e:j=k
  ·subst e;rw [m];exact b
  ·exact l.out j h x8
 clear m l;go_wp2_with (go_at_call 141;refine(bX (d[k]'a) _).mono ?_;rintro e t ⟨rfl,rfl⟩)
 go_roundw
 case rel=>(repeat apply Exists.intro);exact⟨⟨k+1,x8,k7,trivial,p⟩,rfl⟩
 case measure=>simp [intOf];omega):P:=h
theorem zB5{P:Prop}(h:P:=by clear a;go_enter func132,ntmps132;go_wp2_with (first | (go_at_call 141;refine(bX c _).mono ?_;rintro e b ⟨rfl,rfl⟩) | (go_at_call 142;refine(jJ _ _ _).mono ?_;rw [wH];rintro e b ⟨rfl,rfl⟩));go_ret;exact⟨aP d.symm,rfl⟩):P:=h
theorem zB6{P:Prop}(h:P:=by go_enter func115,ntmps115;go_wp2;exact bodyPost_ret (v:=.tuple #[.agg #[Q1 3,.string (s.extract 0 2)],.bool true]) zN4 rfl ⟨b_,_,_,_,rfl,.inr ⟨rfl,_,rfl,i,rfl⟩⟩):P:=h
theorem zB7{P:Prop}(h:P:=by clear a;go_enter func132,ntmps132;go_wp2_with (go_at_call 141;refine(bX c _).mono ?_;rintro e b ⟨rfl,rfl⟩);go_ret;exact⟨aP d.symm,rfl⟩):P:=h
theorem zB8{P:Prop}(h:P:=by
 go_enter func141,ntmps141
 go_wp2
 go_ret;exact⟨by simp [A3];omega,rfl⟩):P:=h
theorem zB9{P:Prop}(h:P:=by clear m l b;go_wp2_with (go_at_call 141;refine(bX (d[k]'a) _).mono ?_;rintro e t ⟨rfl,rfl⟩);go_ret;exact⟨aP n.symm,rfl⟩):P:=h
section
open Go.RowKit
variable {bs:Q7} {pre:Q6} {k:Nat}
theorem bX(c:UInt8)(w:World) :Q2 141 #[.int .u8 (c.toNat:Int)] w fun e a=>e=.returned (.bool (A3 c))/\w=a:=by
 by_cases b:(48:Int)<=c.toNat
 ·by_cases d:(c.toNat:Int)<=57
  ·exact zB8
  ·exact zB8
 ·exact zB8
theorem nG(c:UInt8)(w:World) :Q2 89 #[.int .u8 (c.toNat:Int)] w fun e f=>e=.returned (.bool (Pl.blank c))/\w=f:=by
 by_cases b:(c==32)=true
 ·have g:((c.toNat:Int)==32)=true:=by rw [b32];exact b
  have d:Hid (Pl.blank c=true):=by simp [Hid,Pl.blank,b]
  clear b;go_enter func89,ntmps89;go_wp2;go_ret;exact⟨aP d.symm,rfl⟩
 ·have a:(c==32)=false:=by simpa using b
  have g:((c.toNat:Int)==32)=false:=by rw [b32];exact a
  have d:Hid (Pl.blank c=((c.toNat:Int)==10)):=by simp [Hid,Pl.blank,a,b10]
  clear b a;go_enter func89,ntmps89;go_wp2;go_ret;exact⟨aP d.symm,rfl⟩
theorem UD(c:UInt8):∀l:Q7,(0<=Lib.indexByte l c)↔c∈l
 | []=>by simp [Lib.indexByte]
 | b::l=>by
  have d:=UD c l;have f:=Lib.indexByte_ge l c;unfold Lib.indexByte;by_cases a:b=c
  ·simp [a]
  ·rw [if_neg zM1];by_cases e:Lib.indexByte l c=-1
   ·rw [if_pos a6];have:¬c∈l:=fun h=>by have:=d.2 h;omega
    simp only [List.mem_cons,this,or_false];constructor
    ·intro h;omega
    ·intro h;exact absurd h.symm a
   ·rw [if_neg a6];have:c∈l:=d.1 x8;simp only [List.mem_cons,this,or_true,iff_true];omega
theorem jJ(s:Q8)(c:Int)(w:World) :Q2 142 #[.string s,.int .u8 c] w fun e a=>e=.returned (Q1 (Lib.indexByte s.data.toList c.toNat.toUInt8))/\w=a:=by
 go_enter func142,ntmps142
 go_wp2
 rw [run_callFunc_extern func154 t8 t8 t8 (e:=Extern.BytealgIndexByte.indexByte) t8,Lib.run_indexByteString];simp only [Result.andThen];rw [Oper.upon_value];go_wp2;go_ret;exact⟨rfl,rfl⟩
theorem wH(c:UInt8):Lib.indexByte (ByteArray.mk #[43,45,42,47,60,61,62,63,33]).data.toList ((c.toNat:Int).toNat.toUInt8)=Lib.indexByte Pl.EZ c:=by
 have:((c.toNat:Int).toNat.toUInt8)=c:=by simp
 rw [this];rfl
theorem cO(c:UInt8)(w:World) :Q2 132 #[.int .u8 (c.toNat:Int)] w fun e b=>e=.returned (.bool (CV c))/\w=b:=by
 by_cases a:(97:Int)<=c.toNat/\(c.toNat:Int)<=122
 ·obtain⟨a,m⟩:=a;have d:Hid (CV c=true):=by simp [Hid,CV,Pl.QM c a m]
  go_enter func132,ntmps132
  go_wp2
  go_ret;exact⟨aP d.symm,rfl⟩
 ·have i:Hid (CV c=(decide (c∈Pl.EZ)||A3 c)):=by simp [Hid,CV,Pl.PM c a]
  have l:Hid (decide (0<=Lib.indexByte Pl.EZ c)=decide (c∈Pl.EZ)):=by simp only [Hid];exact decide_eq_decide.2 (UD c Pl.EZ)
  by_cases j:A3 c=true
  ·have d:Hid (CV c=true):=show CV c=true from by rw [i.out,j,Bool.or_true]
   by_cases f:(97:Int)<=c.toNat
   ·have g:¬(c.toNat:Int)<=122:=fun h=>a ⟨f,h⟩;exact zB7
   ·exact zB7
  ·have k:A3 c=false:=by simpa using j
   have d:Hid (CV c=decide (0<=Lib.indexByte Pl.EZ c)):=show CV c=_ from by rw [i.out,k,Bool.or_false,l.out]
   clear j i l;by_cases f:(97:Int)<=c.toNat
   ·have g:¬(c.toNat:Int)<=122:=fun h=>a ⟨f,h⟩;exact zB5
   ·exact zB5
def eF(w:Q7):Bool:=!w.isEmpty&&Pl.isNum w
theorem vJ(r:Q7):eF (45::r)=(!r.isEmpty&&r.all A3):=by
 cases r with
 | nil=>decide
 | cons c q =>
  have a:Pl.minus (45::c::q)=true:=by simp [Pl.minus]
  simp [eF,Pl.isNum,Pl.EY,a]
theorem vI(w:Q7)(h:¬w.head? = some 45):eF w=(!w.isEmpty&&w.all A3):=by
 have a:Pl.minus w=false:=by
  cases w with
  | nil=>rfl
  | cons c q =>simp only [List.head?_cons,o_] at h;simp [Pl.minus,h]
 simp [eF,Pl.isNum,Pl.EY,a]
theorem dB(s:Q8)(k:Nat):(s.extract 0 k).toList=s.data.toList.take k:=by rw [Lib.toList_data,eP];simp
theorem sI(s:Q8)(w:World)(L:s.size<=1000) :Q2 133 #[.string s] w fun e t=>e=.returned (.bool (eF s.data.toList))/\w=t:=by
 by_cases f:s.data.toList.head? = some 45
 ·obtain⟨r,B⟩:∃r,s.data.toList=45::r:=by
   cases h:s.data.toList with
   | nil=>rw [h] at f;simp at f
   | cons c q=>rw [h] at f;simp at f;exact⟨q,by rw [f]⟩
  have u:1<=s.size:=by have:=congrArg List.length B;simp at this;omega
  have I:((s.extract 0 1).toList==[45])=true:=by rw [dB,B];rfl
  have F:=h_ B;clear f B;go_enter func133,ntmps133;go_wp2;obtain⟨d,o⟩:∃d,d=s.extract 1 s.size:=⟨_,rfl⟩
  have v:d.data.toList=r:=by rw [o,Lib.extract_to_end,F.out];rfl
  have x:Hid (eF s.data.toList=(!d.data.toList.isEmpty&&d.data.toList.all A3)):=show eF _=_ from by rw [F.out,v];exact vJ r
  have J:d.size<=1000:=by rw [o];simp;omega
  rw [<- o,show s.size-1=d.size from by rw [o];simp];clear o v
  go_loopw [9] (fun i y=>∃k:Nat,k<=d.size/\i=.int .i64 k/\w=y/\Hid (∀j (h:j<d.data.toList.length),j<k->A3 d.data.toList[j]=true)) (fun i _=>d.size-(intOf i).toNat)
  case atStart=>exact⟨0,Nat.zero_le _,rfl,rfl,fun j _ C=>by omega⟩
  case round =>
   obtain⟨k,K,rfl,rfl,l⟩:=hrel;by_cases a:k<d.size
   ·have m:=bE d k a;have z:(k:Int)<(d.size:Int):=by omega
    by_cases b:A3 (d[k]'a)=true
    ·exact zB4
    ·have g:A3 (d[k]'a)=false:=by simpa using b
     have n:Hid (eF s.data.toList=false):=show eF _=false from by rw [x.out,Pl.GJ _ k zM1 (by rw [m];exact g),Bool.and_false]
     exact zB9
   ·have n:Hid (eF s.data.toList=!d.data.toList.isEmpty):=show eF _=_ from by
     rw [x.out,Pl.I2 _ fun j h=>l.out j h zN7,Bool.and_true]
    go_wp2
    go_ret;exact⟨aP (by rw [n.out,<-Lib.toList_data]),rfl⟩
 ·have A:Hid (eF s.data.toList=(!s.data.toList.isEmpty&&s.data.toList.all A3)):=vI _ f;by_cases G:s.size=0
  ·have u:¬(1:Int)<=(s.size:Int):=by omega
   clear f;go_enter func133,ntmps133;go_wp2;have D:s.data.toList=[]:=e_ (by simpa using G);have n:Hid (eF s.data.toList=false):=show eF _=false from by rw [D];rfl
   have E:Hid (s.toList=[]):=show s.toList=[] from by rw [Lib.toList_data];exact D
   clear A D
   go_loopw [9] (fun i y=>i=.int .i64 0/\w=y) (fun _ _=>0)
   case atStart=>exact⟨rfl,rfl⟩
   case round =>obtain⟨rfl,rfl⟩:=hrel;go_wp2;go_ret;exact⟨aP (by rw [n.out,E.out];rfl),rfl⟩
  ·have u:1<=s.size:=by omega
   have I:((s.extract 0 1).toList==[45])=false:=by
    rw [dB]
    cases h:s.data.toList with
    | nil =>
     have H:s.data.toList.length=s.size:=by simp
     rw [h] at H;simp at H;omega
    | cons c q=>rw [h] at f;simpa using f
   clear f G;go_enter func133,ntmps133;go_wp2;obtain⟨d,o⟩:∃d,d=s:=⟨_,rfl⟩
   subst o;have x:=A
   go_loopw [9] (fun i y=>∃k:Nat,k<=d.size/\i=.int .i64 k/\w=y/\Hid (∀j (h:j<d.data.toList.length),j<k->A3 d.data.toList[j]=true)) (fun i _=>d.size-(intOf i).toNat)
   case atStart=>exact⟨0,Nat.zero_le _,rfl,rfl,fun j _ C=>by omega⟩
   case round =>
    obtain⟨k,K,rfl,rfl,l⟩:=hrel;by_cases a:k<d.size
    ·have m:=bE d k a;have z:(k:Int)<(d.size:Int):=by omega
     by_cases b:A3 (d[k]'a)=true
     ·exact zB4
     ·have g:A3 (d[k]'a)=false:=by simpa using b
      have n:Hid (eF d.data.toList=false):=show eF _=false from by rw [x.out,Pl.GJ _ k zM1 (by rw [m];exact g),Bool.and_false]
      exact zB9
    ·have n:Hid (eF d.data.toList=!d.data.toList.isEmpty):=show eF _=_ from by
      rw [x.out,Pl.I2 _ fun j h=>l.out j h zN7,Bool.and_true]
     go_wp2
     go_ret;exact⟨aP (by rw [n.out,<-Lib.toList_data]),rfl⟩
theorem yT(s:Q8)(w:World)(q:s.size<=1000) :Q2 134 #[.string s] w fun e g=>e=.returned (.bool (Pl.DZ s.data.toList&&!s.data.toList.isEmpty))/\w=g:=by
 go_enter func134,ntmps134
 go_wp2
 go_loopw [6] (fun i o=>∃k:Nat,k<=s.size/\i=.int .i64 k/\w=o/\Hid (∀j (h:j<s.data.toList.length),j<k->(!A3 s.data.toList[j])=true)) (fun i _=>s.size-(intOf i).toNat)
 case atStart=>exact⟨0,Nat.zero_le _,rfl,rfl,fun j _ p=>by omega⟩
 case round =>
  obtain⟨k,r,rfl,rfl,d⟩:=hrel;by_cases a:k<s.size
  ·have f:=bE s k a;have n:(k:Int)<(s.size:Int):=by omega
   by_cases b:A3 (s[k]'a)=true
   ·have l:Hid (Pl.DZ s.data.toList=false):=Pl.GJ _ k zM1 (by rw [f,b];rfl);clear f d;go_wp2_with (go_at_call 141;refine(bX (s[k]'a) _).mono ?_;rintro e g ⟨rfl,rfl⟩);go_ret;exact⟨aP (by rw [l.out];rfl),rfl⟩
   ·have c:A3 (s[k]'a)=false:=by simpa using b
    have m:Hid (∀j (h:j<s.data.toList.length),j<k+1->(!A3 s.data.toList[j])=true):=by
     intro j h p;by_cases e:j=k
     ·subst e;rw [f,c];rfl
     ·exact d.out j h x8
    clear f d b;go_wp2_with (go_at_call 141;refine(bX (s[k]'a) _).mono ?_;rintro e g ⟨rfl,rfl⟩);exact⟨⟨k+1,x8,k7,trivial,m⟩,zL6⟩
  ·have l:Hid (Pl.DZ s.data.toList=true):=Pl.I2 _ fun j h=>d.out j h zN7;go_wp2;go_ret;exact⟨aP (by rw [l.out,Bool.true_and,<-Lib.toList_data]),rfl⟩
def cE(t:Q7):Int:=if t=[40] then 0 else if t=[41] then 1 else if t=[39] then 2 else if t=[35,116]\/t=[35,102] then 3 else if Pl.isNum t then 4 else 5
def FTok(w:World)(r:Option (Q7))(e:Ending)(w':World):Prop :=
 Q3 w w'/\∃(k:Int)(t:Q8)(b:Bool),e=.returned (.tuple #[.agg #[Q1 k,.string t],.bool b]) /\
  ((r=none/\b=false)\/(b=true/\∃l,r=some l/\t.data.toList=l/\k=cE l))
def cF(r:Q7):Option (Q7) :=
 match r with
 | []=>none
 | d::_=>if(d==116||d==102)=true then some [35,d] else none
theorem RL(s:Q8)(k:Nat)(l:Q7)(h:s.data.toList.take k=l):(s.extract 0 k).data.toList=l:=by rw [eP];simpa using h
theorem nH(s:Q8)(w:World)(o:s.size<=1000)(r:Q7)(f:s.data.toList=35::r) :Q2 115 #[.string s] w fun e j=>FTok w (cF r) e j:=by
 have c:s.data.toList.length=s.size:=by simp
 cases r with
 | nil =>
  rw [f] at c;have k:¬(2:Int)<=(s.size:Int):=by simp at c;omega
  clear c f;go_enter func115,ntmps115;go_wp2;exact bodyPost_ret (v:=.tuple #[.agg #[Q1 0,.string (⟨#[]⟩:Q8)],.bool false]) zN4 rfl ⟨b_,_,_,_,rfl,.inl ⟨rfl,rfl⟩⟩
 | cons d q =>
  rw [f] at c;have k:2<=s.size:=by simp at c;omega
  have a:s.data.toList.take 2=[35,d]:=by rw [f];rfl
  by_cases g:d=116
  ·subst g;have l:((s.extract 0 2).toList==[35,116])=true:=by rw [dB,a];rfl
   have i:Hid (_=_):=RL s 2 _ a;clear c f a;exact zB6
  ·have l:((s.extract 0 2).toList==[35,116])=false:=by rw [dB,a];simpa using g
   by_cases b:d=102
   ·subst b;have m:((s.extract 0 2).toList==[35,102])=true:=by rw [dB,a];rfl
    have i:Hid (_=_):=RL s 2 _ a;clear c f a g;exact zB6
   ·have m:((s.extract 0 2).toList==[35,102])=false:=by rw [dB,a];simpa using b
    have h:(d==116||d==102)=false:=by simp [g,b]
    have n:Hid (cF (d::q)=none):=show cF _=none from by unfold cF;simp [h]
    clear c f a g b h;go_enter func115,ntmps115;go_wp2;exact bodyPost_ret (v:=.tuple #[.agg #[Q1 0,.string (⟨#[]⟩:Q8)],.bool false]) zN4 rfl ⟨b_,_,_,_,rfl,.inl ⟨n,rfl⟩⟩
theorem mH(l:Q7)(h:∀c∈l,CV c=true):¬l=[40]/\¬l=[41]/\¬l=[39]/\¬(l=[35,116]\/l=[35,102]):=by
 refine⟨?_,?_,?_,?_⟩
 ·rintro rfl;exact absurd (h 40 w9) w8
 ·rintro rfl;exact absurd (h 41 w9) w8
 ·rintro rfl;exact absurd (h 39 w9) w8
 ·rintro(rfl | rfl)<;>exact absurd (h 35 w9) w8
theorem gB(p:UInt8->Bool):∀(l:Q7)(c:UInt8),c∈l.takeWhile p->p c=true
 | [],_,h=>by simp at h
 | x::r,c,h=>by
  by_cases a:p x=true
  ·rw [List.takeWhile_cons,if_pos a] at h;rcases List.mem_cons.1 h with rfl | h
   ·exact a
   ·exact gB p r c h
  ·rw [List.takeWhile_cons,if_neg a] at h;simp at h
def gX(l:Q7):Bool:=!l.isEmpty&&(Pl.isNum l||Pl.DZ l)
def bZ(l:Q7):Option (Q7):=if gX l then some l else none
theorem gE{l:Q7}(h:∀c∈l,CV c=true):cE l=if Pl.isNum l then 4 else 5:=by obtain⟨a,b,d,e⟩:=mH l h;unfold cE;rw [if_neg a,if_neg b,if_neg d,if_neg e]
theorem cD(s:Q8)(w:World)(a:s.size<=1000)(b:Bool)(h:eF s.data.toList=b):Q2 133 #[.string s] w fun e c=>e=.returned (.bool b)/\w=c:=by subst h;exact sI s w a
theorem dA(s:Q8)(w:World)(a:s.size<=1000)(b:Bool)(h:(Pl.DZ s.data.toList&&!s.data.toList.isEmpty)=b):Q2 134 #[.string s] w fun e c=>e=.returned (.bool b)/\w=c:=by subst h;exact yT s w a
theorem oZ(s:Q8)(w:World)(L:s.size<=1000) :Q2 116 #[.string s] w fun e l=>FTok w (bZ (s.data.toList.takeWhile CV)) e l:=by
 go_enter func116,ntmps116
 go_wp2_with fail
 go_loopw [4] (fun i H=>∃k:Nat,k<=s.size/\i=.int .i64 k/\H=w.alloc (.cells #[Q1 0,.string ⟨#[]⟩] 231)/\Hid (∀j (h:j<s.data.toList.length),j<k->CV s.data.toList[j]=true)) (fun i _=>s.size-(intOf i).toNat)
 case atStart=>exact⟨0,Nat.zero_le _,rfl,rfl,fun j _ D=>by omega⟩
 case round =>
  obtain⟨k,I,rfl,rfl,B⟩:=hrel;have J:w.heap.size<(w.alloc (.cells #[Q1 0,.string ⟨#[]⟩] 231)).heap.size:=by simp
  by_cases A:∃a:k<s.size,CV (s[k]'a)=true
  ·obtain⟨a,u⟩:=A;have G:=bE s k a
   have E:Hid (∀j (h:j<s.data.toList.length),j<k+1->CV s.data.toList[j]=true):=by
    intro j h D;by_cases e:j=k
    ·subst e;rw [G];exact u
    ·exact B.out j h x8
   clear G B;go_wp2_with (go_at_call 132;refine(cO (s[k]'a) _).mono ?_;rintro e l ⟨rfl,rfl⟩);exact⟨⟨k+1,x8,k7,trivial,E⟩,zL6⟩
  ·have x:s.data.toList.takeWhile CV=s.data.toList.take k:=(Pl.G8 CV s.data.toList k (by simpa using I) (fun j h D=>B.out j h D) (fun h=>by
    have a:k<s.size:=by simpa using h
    rw [bE s k a];by_cases u:CV (s[k]'a)=true
    ·exact absurd ⟨a,u⟩ A
    ·simpa using u)).1
   have C:Hid (∀c∈s.data.toList.take k,CV c=true):=by rw [<- x];exact gB _ _
   have z:=h_ x;have p:Hid ((s.extract 0 k).data.toList=s.data.toList.take k):=RL s k _ rfl;have d:(s.extract 0 k).size<=1000:=by simp;omega
   clear x B;by_cases a:k<s.size
   ·have K:CV (s[k]'a)=false:=by
     by_cases u:CV (s[k]'a)=true
     ·exact absurd ⟨a,u⟩ A
     ·simpa using u
    exact zB2
   ·exact zB2
def pY(bs:Q7):Option (Q7) :=
 match bs with
 | []=>none
 | c::r=>if c=40 then some [40] else if c=41 then some [41] else if c=39 then some [39] else if c=35 then cF r else bZ (bs.takeWhile CV)
theorem nI(s:Q8)(w:World)(B:s.size<=1000)(c:UInt8)(r:Q7)(h:s.data.toList=c::r) :Q2 90 #[.string s] w fun e C=>FTok w (pY (c::r)) e C:=by
 have a:0<s.size:=by
  have:s.data.toList.length=s.size:=by simp
  rw [h] at this;simp at this;omega
 have d:s[0]'a=c:=by rw [<- bE s 0 a];simp [h]
 by_cases b:c=40
 ·subst b;have D:(((s[0]'a).toNat:Int)==40)=true:=by rw [b40,d];rfl
  clear d;have m:=(show Hid ((s.extract 0 1).data.toList=[40]) from RL s 1 _ zQ5)
  clear h;go_enter func90,ntmps90;go_wp2_with fail;exact bodyPost_ret (v:=.tuple #[.agg #[Q1 0,.string (s.extract 0 1)],.bool true]) zN6 rfl ⟨b_,_,_,_,rfl,.inr ⟨rfl,_,rfl,m,rfl⟩⟩
 have D:(((s[0]'a).toNat:Int)==40)=false:=by rw [b40,d];simpa using b
 by_cases f:c=41
 ·subst f;have E:(((s[0]'a).toNat:Int)==41)=true:=by rw [b41,d];rfl
  clear d b;have m:=(show Hid ((s.extract 0 1).data.toList=[41]) from RL s 1 _ zQ5)
  clear h;go_enter func90,ntmps90;go_wp2_with fail;exact bodyPost_ret (v:=.tuple #[.agg #[Q1 1,.string (s.extract 0 1)],.bool true]) zN6 rfl ⟨b_,_,_,_,rfl,.inr ⟨rfl,_,rfl,m,rfl⟩⟩
 have E:(((s[0]'a).toNat:Int)==41)=false:=by rw [b41,d];simpa using f
 by_cases i:c=39
 ·subst i;have F:(((s[0]'a).toNat:Int)==39)=true:=by rw [b39,d];rfl
  clear d b f;have m:=(show Hid ((s.extract 0 1).data.toList=[39]) from RL s 1 _ zQ5)
  clear h;go_enter func90,ntmps90;go_wp2_with fail;exact bodyPost_ret (v:=.tuple #[.agg #[Q1 2,.string (s.extract 0 1)],.bool true]) zN6 rfl ⟨b_,_,_,_,rfl,.inr ⟨rfl,_,rfl,m,rfl⟩⟩
 have F:(((s[0]'a).toNat:Int)==39)=false:=by rw [b39,d];simpa using i
 by_cases j:c=35
 ·subst j;have G:(((s[0]'a).toNat:Int)==35)=true:=by rw [b35,d];rfl
  have o:=h_ h;clear d b f i h;go_enter func90,ntmps90;go_wp2_with fail;refine(nH s _ B r o).mono ?_;exact zB3
 ·have G:(((s[0]'a).toNat:Int)==35)=false:=by rw [b35,d];simpa using j
  have J:Hid (pY (c::r)=bZ ((c::r).takeWhile CV)):=show pY _=_ from by unfold pY;dsimp only;rw [if_neg b,if_neg f,if_neg i,if_neg j]
  have o:=h_ h;clear d b f i j h;go_enter func90,ntmps90;go_wp2_with fail;refine(oZ s _ B).mono ?_;rw [o.out,<-J.out];exact zB3
def aY(s:Q8)(code:Int):Value:=.iface 158 (.agg #[.string s,.iface 142 (.int .i64 code)])
theorem bJ(s:Q8)(a:Int)(w:World):Q2 47 #[.string s,Q1 a] w fun e b=>e=.returned (aY s a)/\w=b:=by
 go_enter func47,ntmps47
 go_wp2
 go_ret;exact⟨rfl,rfl⟩
def bF(bs:Q7):Option (Q6) :=
 match Pl.BX bs with
 | none=>none
 | some l=>if l.all Pl.BF=true then some l else none
theorem eI(h:Pl.BX bs=none):bF bs=none:=by unfold bF;rw [h]
theorem pA{t:Q7}{x:Option (Q6)}(h:Pl.DO bs pre k)(a:Pl.BX (bs.drop k)=x.map (t::·))(b:Pl.BF t=false):bF bs=none:=by
 unfold bF;unfold Pl.DO at h;rw [a] at h
 cases x with
 | none=>simp at h;rw [h]
 | some y =>simp at h;rw [h];dsimp only;rw [if_neg (by simp [b])]
theorem nP(h:Pl.DO bs pre k)(a:bs.length<=k)(b:pre.all Pl.BF=true):bF bs=some pre:=by unfold bF;rw [h.end_ a];dsimp only;rw [if_pos b]
theorem jZ(p:UInt8->Bool)(l:Q7):l.dropWhile p=l.drop (l.takeWhile p).length:=by
 induction l with
 | nil=>rfl
 | cons c r a =>
  by_cases h:p c=true
  ·simp [h,a]
  ·simp [h]
theorem wY{c:UInt8}{r:Q7}(h:Pl.DO bs pre k)(b:bs.drop k=c::r)(G:Pl.blank c=false) :(∀t,pY (c::r)=some t->Pl.DO bs (pre++[t]) (k+t.length)/\Pl.BF t=true/\0<t.length/\k+t.length<=bs.length)/\(pY (c::r)=none->bF bs=none):=by
 have l:∀m,bs.drop (k+m)=(c::r).drop m:=fun m=>by rw [<- b,List.drop_drop]
 have s:bs.length=k+(r.length+1):=by have:=congrArg List.length b;simp at this;omega
 have B:∀x:UInt8,(x=40\/x=41\/x=39)->c=x->pY (c::r)=some [x]->(∀t,pY (c::r)=some t->Pl.DO bs (pre++[t]) (k+t.length)/\Pl.BF t=true/\0<t.length/\k+t.length<=bs.length)/\(pY (c::r)=none->bF bs=none):=by
  intro x E H a;subst H;refine⟨fun t u=>?_,fun p=>by rw [a] at p;cases p⟩;rw [a] at u;obtain rfl:=i_ u;have F:CV c=false:=by rcases E with rfl | rfl | rfl<;>decide
  have C:Pl.H4 c=true:=by rcases E with rfl | rfl | rfl<;>decide
  refine⟨h.more ?_,by simp [Pl.BF,F],w9,r7⟩;rw [b,Pl.KX c r F C];have:=l 1;simp only [List.length_singleton,this];rfl
 by_cases f:c=40
 ·exact B 40 (.inl rfl) f (by subst f;rfl)
 by_cases g:c=41
 ·exact B 41 (.inr (.inl rfl)) g (by subst g;rfl)
 by_cases i:c=39
 ·exact B 39 (.inr (.inr rfl)) i (by subst i;rfl)
 by_cases n:c=35
 ·subst n;have e:pY (35::r)=cF r:=rfl;rw [e]
  cases r with
  | nil=>exact⟨fun t a=>by simp [cF] at a,fun _=>eI (h.none_ (by rw [b];exact Pl.KY))⟩
  | cons d q =>
   by_cases j:(d==116||d==102)=true
   ·have o:cF (d::q)=some [35,d]:=by unfold cF;simp only;rw [if_pos j]
    rw [o];refine⟨fun t a=>?_,fun p=>by cases p⟩;obtain rfl:=i_ a;refine⟨h.more ?_,by simp [Pl.BF,show CV 35=false from by decide],w9,by simp at s ⊢;omega⟩;rw [b,Pl.MA d q j];have:=l 2;simp only [c_,z_,Nat.zero_add,Nat.reduceAdd,this];rfl
   ·have v:(d==116||d==102)=false:=by simpa only [Bool.not_eq_true] using j
    have o:cF (d::q)=none:=by unfold cF;simp only;rw [if_neg j]
    rw [o];exact⟨fun t a=>by(cases a),fun _=>eI (h.none_ (by rw [b];exact Pl.J3 d q v))⟩
 ·have e:pY (c::r)=bZ ((c::r).takeWhile CV):=by unfold pY;dsimp only;rw [if_neg f,if_neg g,if_neg i,if_neg n]
  rw [e];by_cases w:CV c=true
  ·have a:(c::r).takeWhile CV=c::r.takeWhile CV:=by rw [List.takeWhile_cons,if_pos w]
   rw [a];have y:=Pl.L9 c r w;have z:Pl.BF (c::r.takeWhile CV)=gX (c::r.takeWhile CV):=by simp [Pl.BF,gX,w]
   by_cases A:gX (c::r.takeWhile CV)=true
   ·have o:bZ (c::r.takeWhile CV)=some (c::r.takeWhile CV):=by unfold bZ;rw [if_pos A]
    rw [o];refine⟨fun t a=>?_,fun p=>by cases p⟩;obtain rfl:=i_ a;have I:(r.takeWhile CV).length<=r.length:=(List.takeWhile_sublist CV).length_le;refine⟨h.more ?_,by rw [z];exact A,w9,r7⟩;rw [b,y,l];simp only [c_,List.drop_succ_cons];rw [jZ]
   ·have o:bZ (c::r.takeWhile CV)=none:=by unfold bZ;rw [if_neg A]
    rw [o];exact⟨fun t a=>by(cases a),fun _=>pA h (by rw [b];exact y) (by rw [z];simpa only [Bool.not_eq_true] using A)⟩
  ·have D:CV c=false:=by simpa only [Bool.not_eq_true] using w
   have a:(c::r).takeWhile CV=[]:=by rw [List.takeWhile_cons,if_neg w]
   rw [a];refine⟨fun t a=>by simp [bZ,gX] at a,fun _=>eI (h.none_ ?_)⟩;rw [b];exact Pl.NL c r G (by simpa using n) D (by simp [Pl.H4,f,g,i])
theorem Tryz.YK:(prog.info? 231).map (fun i=>(i.zero,i.size,i.bytes))=some (some (.agg #[Q1 0,.string ByteArray.empty]),2,24):=by kernel_rfl
def gO(l:Q6):List Value:=l.flatMap fun t=>[Q1 (cE t),eB t]
theorem rO(l:Q6)(t:Q7):gO (l++[t])=gO l++[Q1 (cE t),eB t]:=by simp [gO]
def RY(w:World)(bs:Q7)(e:Ending)(w':World):Prop :=Q3 w w'/\((bF bs=none/\∃v s,e=.returned (.tuple #[v,aY s 2]))\/∃l v,bF bs=some l/\e=.returned (.tuple #[v,.nilIface])/\w'.ownsRow w.heap.size 231 2 v l.length (gO l))
theorem oK(w:World)(a b:Obj):((w.alloc a).alloc b).heap.size=w.heap.size+1+1:=by simp
theorem rH(w:World)(x y:Value)(t:TypeId):∀j u,[x,y][j]?=some u->(w.alloc (.cells #[x,y] t)).cell? ((⟨w.heap.size,0,none⟩:Addr).add j)=some u :=World.news_of_block (cs:=#[x,y]) (t:=t) (fr:=(0,0)) (heap_alloc_new w _)
theorem WA{t:Q8}{l:Q7}(h:t.data.toList=l):Value.string t=eB l:=by subst h;unfold eB;simp
theorem XD(s:Q8)(w:World)(hs:s.size<=1000):Q2 71 #[.string s] w fun e D=>RY w s.data.toList e D:=by
 obtain⟨i0,I,J,K,L⟩:=info_parts Tryz.YK;go_enter func71,ntmps71;go_wp2_with fail
 go_loopw [4,5] (fun v i wr=>∃(k:Nat) (a:Q6),k<=s.size/\a.length<=k/\i=.int .i64 k/\Hid (Pl.DO s.data.toList a k)/\Hid (a.all Pl.BF=true)/\Hid (wr.ownsRow w.heap.size 231 2 v a.length (gO a))/\Hid (Q3 w wr))
  (fun _ i _=>s.size-(intOf i).toNat)
 case atStart=>exact⟨0,[],Nat.zero_le _,Nat.zero_le _,rfl,Pl.DO.start _,zQ6,World.ownsRow_nil _ _ _ _,r_⟩
 case round =>
  obtain⟨k,a,hk,ad,rfl,y,E,F,G⟩:=hrel;by_cases b:k<s.size
  ·have d:k<s.data.toList.length:=by simpa using b
   have H:=bE s k b;have U:(k:Int)<(s.size:Int):=by omega
   by_cases M:Pl.blank (s[k]'b)=true
   ·have g:Hid (Pl.DO s.data.toList a (k+1)):=y.blank d (by rw [H];exact M);clear y d H;go_wp2_with (go_at_call 89;refine(nG (s[k]'b) _).mono ?_;rintro e D ⟨rfl,rfl⟩);exact⟨⟨k+1,a,x8,x8,k7,g,E,F,G⟩,zL6⟩
   ·have N:Pl.blank (s[k]'b)=false:=by simpa using M
    have h:s.data.toList.drop k=(s[k]'b)::s.data.toList.drop (k+1):=by rw [Pl.EN _ _ d,H]
    have m:=wY y h N;have V:=h_ m.1;have W:=h_ m.2;have HX:Hid ((s.extract k s.size).data.toList=(s[k]'b)::s.data.toList.drop (k+1)):=show _=_ from by rw [Lib.extract_to_end];exact h
    have O:(s.extract k s.size).size<=1000:=by simp;omega
    have P:=G.size;clear y d H h m M;go_wp2_with (go_at_call 89;refine(nG (s[k]'b) _).mono ?_;rintro e D ⟨rfl,rfl⟩);refine(nI _ _ O _ _ HX).mono ?_;rintro e f ⟨n,k1,u,b1,rfl,hc⟩;have p:=h_ (G.trans (n.mono P));have z:=p.size;have q:Hid (f.ownsRow w.heap.size 231 2 u4 a.length (gO a)):=F.kept (aQ none n) (by cases hv:Value.ownBlock u4<;>simp);clear n F;rcases hc with⟨X,rfl⟩ | ⟨rfl,l,Y,r,rfl⟩
    ·have Q:=h_ (W X);clear X;go_wp2_with (go_at_call 47;refine(bJ _ _ _).mono ?_;rintro e D ⟨rfl,rfl⟩);go_ret2;exact⟨p.alloc z _,.inl ⟨Q,_,_,rfl⟩⟩
    ·obtain⟨A,B,Z,C⟩:=V.out l Y;have g:=h_ A;have R:Hid ((a++[l]).all Pl.BF=true):=show _=true from by rw [List.all_append,E.out];simp [B]
     have ae:u.size=l.length:=by rw [<- r];simp
     have aa:k+l.length<=s.size:=by simpa using C
     have S:=h_ (WA r);clear A B C Y r E V W;have T:∀(o:Obj)(x:Value),((f.alloc (.cells #[x,.string u] 231)).alloc o).cell? ⟨f.heap.size,1,none⟩=some (.string u):=fun o x=>aA ((k_ w9).trans (heap_alloc_new f _)) 1;go_wp2_with (first | (at_builtin;refine wpList_append_lies _ rfl _ _ 187 rfl w.heap.size 231 i0 (.agg #[Q1 0,.string ByteArray.empty]) 2 24 underlying187 I J K L rfl w8 u4 a.length (gO a) rfl ((q.alloc _).alloc _) ⟨f.heap.size+1,0,none⟩ 1 1 [Q1 (cE l),.string u] rfl rfl (by have:=rH (f.alloc (.cells #[Q1 (cE l),.string u] 231)) (.int .i64 (cE l)) (.string u) 231;simpa using this) (fun x hx=>by simp at hx;rcases hx with rfl | rfl<;>rfl) w8 o6 x8 r7 (f.heap.size+1+1) w9 ?_;intro g3 ab w3 t c ac _;have ct:=(c.cell_far ⟨f.heap.size,1,none⟩ (by simp only [oK];omega) (fun e=>Nat.lt_irrefl _ (q.lt f.heap.size e.symm).2)).trans (T _ _)))
     go_roundw
     case rel =>
      refine⟨k+l.length,a++[l],x8,r7,k7,g,R,?_,?_⟩
      ·have h3:=t;rw [S.out] at h3;show w3.ownsRow _ _ _ _ _ _;rw [rO];simpa using h3
      ·exact((p.alloc z _).alloc r7 _).grown c r7 (fun j hj=>(q.lt j hj).1)
     case measure=>simp [intOf];omega
  ·have Q:Hid (bF s.data.toList=some a):=nP y r7 E;go_wp2_with fail;go_ret2;exact⟨G,.inr ⟨a,_,Q,rfl,F⟩⟩
end
end Go.Proofs.YtbgghmjmcapmlaaGreatDoor
