import Derived.Test.YtkgbdddkcjpgfaaGreatDoorProg
import Derived.WalkKit
import Derived.WalkSpells
import Derived.WalkLawsBesides
import Derived.Test.YtkgbdddkcjpgfaaGreatDoorT01
namespace Go.Proofs.YtkgbdddkcjpgfaaGreatDoor
set_option maxHeartbeats 1000000
set_option maxRecDepth 100000
open Go.Proofs.Tryz
open Pl (CV A3)
section
open Go.RowKit
theorem aP{a b:Bool}(h:a=b):Ending.returned (.bool a)=.returned (.bool b):=by rw [h]
theorem bI(c:UInt8)(w:World) :Calls prog 119 #[.int .u8 (c.toNat:Int)] w fun e a=>e=.returned (.bool (A3 c))/\w=a:=by
 by_cases b:(48:Int)<=c.toNat
 ·by_cases d:(c.toNat:Int)<=57
  ·go_enter func119,ntmps119
   go_wp2
   go_ret;exact⟨by simp [A3];omega,rfl⟩
  ·go_enter func119,ntmps119
   go_wp2
   go_ret;exact⟨by simp [A3];omega,rfl⟩
 ·go_enter func119,ntmps119
  go_wp2
  go_ret;exact⟨by simp [A3];omega,rfl⟩
theorem aZ(c:UInt8)(w:World) :Calls prog 70 #[.int .u8 (c.toNat:Int)] w fun e j=>e=.returned (.bool (CV c))/\w=j:=by
 go_enter func70,ntmps70
 go_wp2
 go_loop [4] (fun i=>∃k:Nat,k<=9/\i=.int .i64 k/\c∉Pl.EZ.take k) (fun i=>9-(intOf i).toNat)
 case atStart=>exact⟨0,Nat.zero_le _,rfl,by simp⟩
 case round =>
  obtain⟨k,p,rfl,g⟩:=hrel;by_cases a:k<9
  ·by_cases f:Pl.EZ[k]'a=c
   ·have h:((Pl.EZ[k]'a).toNat:Int)==(c.toNat:Int):=by rw [Pl.CR];simp [f]
    have l:((ByteArray.mk #[43,45,42,47,60,61,62,63,33])[k].toNat:Int)==(c.toNat:Int):=h;have b:CV c=true:=Pl.T7 c (f▸List.getElem_mem _);clear h g f;go_wp2;go_ret;exact⟨rfl,rfl⟩
   ·have h:(((Pl.EZ[k]'a).toNat:Int)==(c.toNat:Int))=false:=by rw [Pl.CR];simp [f]
    have l:(((ByteArray.mk #[43,45,42,47,60,61,62,63,33])[k].toNat:Int)==(c.toNat:Int))=false:=h;have d:=Pl.MB Pl.EZ c k a g f;clear h g f;go_wp2;exact⟨⟨k+1,by omega,by go_num,d⟩,by simp [intOf];omega⟩
  ·have d:c∉Pl.EZ:=by rwa [List.take_of_length_le (by simp [Pl.EZ];omega)] at g
   have b:=h_ (Pl.T8 c d);clear g d;by_cases n:(97:Int)<=c.toNat
   ·by_cases o:(c.toNat:Int)<=122
    ·go_wp2
     go_ret;exact⟨aP (by rw [b.out,Pl.QM c n o];rfl),rfl⟩
    ·have m:Hid (Pl.low c=false):=Pl.PM c (by omega);go_wp2_with (go_at_call 119;refine(bI c _).mono ?_;rintro e j ⟨rfl,rfl⟩);go_ret;exact⟨aP (by rw [b.out,m.out];rfl),rfl⟩
   ·have m:Hid (Pl.low c=false):=Pl.PM c (by omega);go_wp2_with (go_at_call 119;refine(bI c _).mono ?_;rintro e j ⟨rfl,rfl⟩);go_ret;exact⟨aP (by rw [b.out,m.out];rfl),rfl⟩
def eB(l:List UInt8):Value:=.string ⟨l.toArray⟩
theorem Tryz.QN:(prog.info? 9).map (fun i=>(i.zero,i.size,i.bytes))=some (some (.string ByteArray.empty),1,16):=by kernel_rfl
theorem oB(s:ByteArray)(i k:Nat):Value.string (s.extract i k)=eB ((s.data.toList.drop i).take (k-i)):=by
 unfold eB
 congr 1
 apply ByteArray.ext;rw [ByteArray.data_extract];apply Array.toList_inj.1;simp [Array.toList_extract,List.extract_eq_take_drop]
theorem bE(s:ByteArray)(k:Nat)(h:k<s.size):s.data.toList[k]'(by simpa using h)=s[k]:=by rw [Array.getElem_toList];rfl
def U0:Value->Nat | .bool true=>1 | _=>0
theorem b32(c:UInt8):((c.toNat:Int)==32)=(c==32):=Pl.CR c 32
theorem b10(c:UInt8):((c.toNat:Int)==10)=(c==10):=Pl.CR c 10
theorem b35(c:UInt8):((c.toNat:Int)==35)=(c==35):=Pl.CR c 35
theorem b116(c:UInt8):((c.toNat:Int)==116)=(c==116):=Pl.CR c 116
theorem b102(c:UInt8):((c.toNat:Int)==102)=(c==102):=Pl.CR c 102
theorem b40(c:UInt8):((c.toNat:Int)==40)=(c==40):=Pl.CR c 40
theorem b41(c:UInt8):((c.toNat:Int)==41)=(c==41):=Pl.CR c 41
theorem b39(c:UInt8):((c.toNat:Int)==39)=(c==39):=Pl.CR c 39
theorem b45(c:UInt8):((c.toNat:Int)==45)=(c==45):=Pl.CR c 45
def ZN(bs:List UInt8)(w:World)(e:Ending)(w':World):Prop :=
 ∃v b,e=.returned (.tuple #[v,.bool b])/\Below w.heap.size w w' /\
  ((Pl.BX bs=none/\b=false)\/∃l,Pl.BX bs=some l/\b=true/\w'.ownsRow w.heap.size 9 1 v l.length (l.map eB))
theorem fF{w wr w3:World}{s:ByteArray}{k m:Nat}{pre:List (List UInt8)}{v v':Value}{o:Obj}(c:wr.ownsRow w.heap.size 9 1 v pre.length (pre.map eB))(b:Below w.heap.size w wr)
  (a:w3.ownsRow w.heap.size 9 1 v' (pre.length+1) (pre.map eB++[Value.string (s.extract k m)])) (d:(wr.alloc o).grownBy w3 v.ownBlock) :
  Hid (w3.ownsRow w.heap.size 9 1 v' (pre++[(s.data.toList.drop k).take (m-k)]).length ((pre++[(s.data.toList.drop k).take (m-k)]).map eB))/\Hid (Below w.heap.size w w3):=by
 constructor
 ·show w3.ownsRow _ _ _ _ _ _;rw [oB] at a;simpa using a
 ·exact(b.alloc b.size o).grown d (by have:=b.size;simp;omega) (fun j e=>(c.lt j e).1)
theorem rT(s:ByteArray)(w:World)(hs:s.size<=1000) :Calls prog 69 #[.string s] w fun e F=>ZN s.data.toList w e F:=by
 obtain⟨S,T,C,D,E⟩:=info_parts Tryz.QN;go_enter func69,ntmps69;go_wp2
 go_loopw [4,5] (fun v i wr=>∃(k:Nat) (d:List (List UInt8)),k<=s.size/\d.length<=k/\i=.int .i64 k/\Hid (Pl.DO s.data.toList d k)/\Hid (wr.ownsRow w.heap.size 9 1 v d.length (d.map eB))/\Hid (Below w.heap.size w wr))
  (fun _ i _=>s.size-(intOf i).toNat)
 case atStart=>exact⟨0,[],Nat.zero_le _,Nat.zero_le _,rfl,Pl.DO.start _,World.ownsRow_nil _ _ _ _,r_⟩
 case round =>
  obtain⟨k,d,hk,ah,rfl,t,u,q⟩:=hrel;by_cases a:k<s.size
  ·have l:k<s.data.toList.length:=by simpa using a
   have G:=bE s k a;by_cases O:Pl.blank (s[k]'a)=true
   ·have n:Hid (Pl.DO s.data.toList d (k+1)):=t.blank l (by rw [G];exact O);clear t l G;by_cases N:(s[k]'a==32)=true
    ·have q1:(((s[k]'a).toNat:Int)==32)=true:=by rw [b32];exact N
     clear N O;go_wp2_with (go_at_call 70;refine(aZ (s[k]'a) _).mono ?_;rintro e F ⟨rfl,rfl⟩);exact⟨⟨k+1,d,by omega,by omega,by go_num,n,u,q⟩,by simp [intOf];omega⟩
    ·have q1:(((s[k]'a).toNat:Int)==32)=false:=by rw [b32];simpa using N
     have q2:(((s[k]'a).toNat:Int)==10)=true:=by rw [b10];simpa [Pl.blank,N] using O
     clear N O;go_wp2_with (go_at_call 70;refine(aZ (s[k]'a) _).mono ?_;rintro e F ⟨rfl,rfl⟩);exact⟨⟨k+1,d,by omega,by omega,by go_num,n,u,q⟩,by simp [intOf];omega⟩
   ·have p:Pl.blank (s[k]'a)=false:=by simpa using O
    have P:=p;simp only [Pl.blank,Bool.or_eq_false_iff] at P;have q1:(((s[k]'a).toNat:Int)==32)=false:=by rw [b32];exact P.1
    have q2:(((s[k]'a).toNat:Int)==10)=false:=by rw [b10];exact P.2
    clear P O;by_cases o:(s[k]'a==35)=true
    ·have q3:(((s[k]'a).toNat:Int)==35)=true:=by rw [b35];exact o
     by_cases h2:s.size<k+2
     ·have U:Hid (Pl.BX s.data.toList=none):=t.none_ (by
       rw [Pl.EN _ _ l,G,List.drop_of_length_le (by simp;omega),(by simpa using o:s[k]'a=35)];exact Pl.KY)
      clear t l G o p;go_wp2_with (go_at_call 70;refine(aZ (s[k]'a) _).mono ?_;rintro e F ⟨rfl,rfl⟩);go_ret2;exact⟨_,false,rfl,q,.inl ⟨U,rfl⟩⟩
     ·have g:k+1<s.size:=by omega
      have Q:=bE s (k+1) g;have H:k+1<s.data.toList.length:=by simpa using g
      have q5:decide ((s.size:Int)<(k:Int)+2)=false:=by simp;omega
      by_cases I:(s[k+1]'g==116||s[k+1]'g==102)=true
      ·have n:Hid (Pl.DO s.data.toList (d++[(s.data.toList.drop k).take (k+2-k)]) (k+2)):=t.more (by
        rw [Pl.EN _ _ l,Pl.EN _ _ H,G,Q,(by simpa using o:s[k]'a=35),Pl.MA _ _ I]
        simp)
       clear t l G o p H Q;by_cases y:(s[k+1]'g==116)=true
       ·have X:(((s[k+1]'g).toNat:Int)!=116)=false:=by rw [bne,show(((s[k+1]'g).toNat:Int)==116)=true from by rw [b116];exact y];rfl
        clear y I;go_wp2_with (first | (go_at_call 70;refine(aZ (s[k]'a) _).mono ?_;rintro e F ⟨rfl,rfl⟩) | (at_builtin;refine wpList_append_own _ rfl _ _ 131 rfl w.heap.size 9 S (.string ByteArray.empty) 1 16 underlying131 T C D E rfl (by decide) u4 d.length (d.map eB) rfl (u.alloc _) ⟨wr.heap.size,0,none⟩ 1 1 [.string _] rfl rfl (cell_one_new _ _ _) (fun x r=>by simp at r;subst r;rfl) (by unfold maxLen;omega) (by omega) (by have:=q.size;simp;omega) ?_;intro Y Z f c _));obtain⟨J,K⟩:=fF u q f c;exact⟨⟨k+2,_,by omega,by simp;omega,by go_num,n,J,K⟩,by simp [intOf];omega⟩
       ·have X:(((s[k+1]'g).toNat:Int)!=116)=true:=by rw [bne,show(((s[k+1]'g).toNat:Int)==116)=false from by rw [b116];simpa using y];rfl
        have q6:(((s[k+1]'g).toNat:Int)!=102)=false:=by rw [bne,show(((s[k+1]'g).toNat:Int)==102)=true from by rw [b102];simpa [y] using I];rfl
        clear y I;go_wp2_with (first | (go_at_call 70;refine(aZ (s[k]'a) _).mono ?_;rintro e F ⟨rfl,rfl⟩) | (at_builtin;refine wpList_append_own _ rfl _ _ 131 rfl w.heap.size 9 S (.string ByteArray.empty) 1 16 underlying131 T C D E rfl (by decide) u4 d.length (d.map eB) rfl (u.alloc _) ⟨wr.heap.size,0,none⟩ 1 1 [.string _] rfl rfl (cell_one_new _ _ _) (fun x r=>by simp at r;subst r;rfl) (by unfold maxLen;omega) (by omega) (by have:=q.size;simp;omega) ?_;intro Y Z f c _));obtain⟨J,K⟩:=fF u q f c;exact⟨⟨k+2,_,by omega,by simp;omega,by go_num,n,J,K⟩,by simp [intOf];omega⟩
      ·have z:(s[k+1]'g==116||s[k+1]'g==102)=false:=by simpa using I
       have U:Hid (Pl.BX s.data.toList=none):=t.none_ (by
        rw [Pl.EN _ _ l,Pl.EN _ _ H,G,Q,(by simpa using o:s[k]'a=35),Pl.J3 _ _ z])
       simp only [Bool.or_eq_false_iff] at z;have X:(((s[k+1]'g).toNat:Int)!=116)=true:=by rw [bne,show(((s[k+1]'g).toNat:Int)==116)=false from by rw [b116];exact z.1];rfl
       have q6:(((s[k+1]'g).toNat:Int)!=102)=true:=by rw [bne,show(((s[k+1]'g).toNat:Int)==102)=false from by rw [b102];exact z.2];rfl
       clear t l G o p H Q I z;go_wp2_with (go_at_call 70;refine(aZ (s[k]'a) _).mono ?_;rintro e F ⟨rfl,rfl⟩);go_ret2;exact⟨_,false,rfl,q,.inl ⟨U,rfl⟩⟩
    ·have A:(s[k]'a==35)=false:=by simpa using o
     have q3:(((s[k]'a).toNat:Int)==35)=false:=by rw [b35];exact A
     by_cases hw:CV (s[k]'a)=true
     ·have HK:=h_ l;have HD:Hid (CV (s.data.toList[k]'l)=true):=by rw [G];exact hw
      clear G o A p;go_wp2_with (go_at_call 70;refine(aZ (s[k]'a) _).mono ?_;rintro e F ⟨rfl,rfl⟩)
      go_loopw [6,9] (fun kk mo wq=>∃(m:Nat)(b:Bool),k+1<=m/\m<=s.size/\kk=.int .i64 m/\mo=.bool b/\wr=wq/\Hid (∀j (h:j<s.data.toList.length),k<j->j<m->CV s.data.toList[j]=true)/\Hid (b=false->∀h:m<s.data.toList.length,CV s.data.toList[m]=false))
       (fun kk mo _=>s.size-(intOf kk).toNat+U0 mo)
      case atStart=>exact⟨k+1,true,n_,by omega,by go_num,rfl,rfl,fun j h h1 h2=>by omega,fun h=>by cases h⟩
      case round =>
       obtain⟨m,b,aa,ab,rfl,rfl,rfl,V,HN⟩:=hrel;by_cases O:b=true
       ·subst O;by_cases L:m<s.size
        ·have R:=bE s m L;have ac:m<s.data.toList.length:=by simpa using L
         by_cases W:CV (s[m]'L)=true
         ·have af:Hid (∀j (h:j<s.data.toList.length),k<j->j<m+1->CV s.data.toList[j]=true):=by
           intro j h h1 h2;by_cases hj:j=m
           ·subst hj;rw [R];exact W
           ·exact V.out j h h1 (by omega)
          clear R ac V HN t HD HK l;go_wp2_with (go_at_call 70;refine(aZ (s[m]'L) _).mono ?_;rintro e F ⟨rfl,rfl⟩);exact⟨⟨m+1,true,by omega,by omega,by go_num,by simp,trivial,af,fun h=>by cases h⟩,by simp [intOf,U0];omega⟩
         ·have ad:CV (s[m]'L)=false:=by simpa using W
          have ag:Hid (∀h:m<s.data.toList.length,CV s.data.toList[m]=false):=fun h=>by rw [R];exact ad
          clear R ac HN t HD HK l W;go_wp2_with (go_at_call 70;refine(aZ (s[m]'L) _).mono ?_;rintro e F ⟨rfl,rfl⟩);exact⟨⟨m,false,by omega,by omega,rfl,by simp,trivial,V,fun _=>ag.out⟩,by simp [intOf,U0]⟩
        ·have n:Hid (Pl.DO s.data.toList (d++[(s.data.toList.drop k).take (m-k)]) m):=t.word HK HD aa (by simpa using ab) V (fun h=>by simp at h;omega);clear V HN t HD HK l;go_wp2_with (first | (at_builtin;refine wpList_append_own _ rfl _ _ 131 rfl w.heap.size 9 S (.string ByteArray.empty) 1 16 underlying131 T C D E rfl (by decide) u4 d.length (d.map eB) rfl (u.alloc _) ⟨wr.heap.size,0,none⟩ 1 1 [.string _] rfl rfl (cell_one_new _ _ _) (fun x r=>by simp at r;subst r;rfl) (by unfold maxLen;omega) (by omega) (by have:=q.size;simp;omega) ?_;intro Y Z f c _));obtain⟨J,K⟩:=fF u q f c;exact⟨⟨m,_,by omega,by simp;omega,by go_num,n,J,K⟩,by simp [intOf];omega⟩
       ·have p:b=false:=by simpa using O
        subst p;have n:Hid (Pl.DO s.data.toList (d++[(s.data.toList.drop k).take (m-k)]) m):=t.word HK HD aa (by simpa using ab) V (HN rfl);clear V HN t HD HK l;go_wp2_with (first | (at_builtin;refine wpList_append_own _ rfl _ _ 131 rfl w.heap.size 9 S (.string ByteArray.empty) 1 16 underlying131 T C D E rfl (by decide) u4 d.length (d.map eB) rfl (u.alloc _) ⟨wr.heap.size,0,none⟩ 1 1 [.string _] rfl rfl (cell_one_new _ _ _) (fun x r=>by simp at r;subst r;rfl) (by unfold maxLen;omega) (by omega) (by have:=q.size;simp;omega) ?_;intro Y Z f c _));obtain⟨J,K⟩:=fF u q f c;exact⟨⟨m,_,by omega,by simp;omega,by go_num,n,J,K⟩,by simp [intOf];omega⟩
     ·have ae:CV (s[k]'a)=false:=by simpa using hw
      by_cases B:Pl.H5 (s[k]'a)=true
      ·have n:Hid (Pl.DO s.data.toList (d++[(s.data.toList.drop k).take (k+1-k)]) (k+1)):=t.more (by
        rw [Pl.EN _ _ l,G,Pl.KX _ _ ae B]
        simp)
       simp only [Pl.H5,Bool.or_eq_true,beq_iff_eq] at B;clear t l G o A p hw;rcases B with(B | B) | B
       ·have X:(((s[k]'a).toNat:Int)!=40)=false:=by rw [bne,show(((s[k]'a).toNat:Int)==40)=true from by rw [b40];simpa using B];rfl
        clear B;go_wp2_with (first | (go_at_call 70;refine(aZ (s[k]'a) _).mono ?_;rintro e F ⟨rfl,rfl⟩) | (at_builtin;refine wpList_append_own _ rfl _ _ 131 rfl w.heap.size 9 S (.string ByteArray.empty) 1 16 underlying131 T C D E rfl (by decide) u4 d.length (d.map eB) rfl (u.alloc _) ⟨wr.heap.size,0,none⟩ 1 1 [.string _] rfl rfl (cell_one_new _ _ _) (fun x r=>by simp at r;subst r;rfl) (by unfold maxLen;omega) (by omega) (by have:=q.size;simp;omega) ?_;intro Y Z f c _));obtain⟨J,K⟩:=fF u q f c;exact⟨⟨k+1,_,by omega,by simp;omega,by go_num,n,J,K⟩,by simp [intOf];omega⟩
       ·have X:(((s[k]'a).toNat:Int)!=40)=true:=by rw [bne,show(((s[k]'a).toNat:Int)==40)=false from by rw [b40];simp [B]];rfl
        have q5:(((s[k]'a).toNat:Int)!=41)=false:=by rw [bne,show(((s[k]'a).toNat:Int)==41)=true from by rw [b41];simpa using B];rfl
        clear B;go_wp2_with (first | (go_at_call 70;refine(aZ (s[k]'a) _).mono ?_;rintro e F ⟨rfl,rfl⟩) | (at_builtin;refine wpList_append_own _ rfl _ _ 131 rfl w.heap.size 9 S (.string ByteArray.empty) 1 16 underlying131 T C D E rfl (by decide) u4 d.length (d.map eB) rfl (u.alloc _) ⟨wr.heap.size,0,none⟩ 1 1 [.string _] rfl rfl (cell_one_new _ _ _) (fun x r=>by simp at r;subst r;rfl) (by unfold maxLen;omega) (by omega) (by have:=q.size;simp;omega) ?_;intro Y Z f c _));obtain⟨J,K⟩:=fF u q f c;exact⟨⟨k+1,_,by omega,by simp;omega,by go_num,n,J,K⟩,by simp [intOf];omega⟩
       ·have X:(((s[k]'a).toNat:Int)!=40)=true:=by rw [bne,show(((s[k]'a).toNat:Int)==40)=false from by rw [b40];simp [B]];rfl
        have q5:(((s[k]'a).toNat:Int)!=41)=true:=by rw [bne,show(((s[k]'a).toNat:Int)==41)=false from by rw [b41];simp [B]];rfl
        have q6:(((s[k]'a).toNat:Int)!=39)=false:=by rw [bne,show(((s[k]'a).toNat:Int)==39)=true from by rw [b39];simpa using B];rfl
        clear B;go_wp2_with (first | (go_at_call 70;refine(aZ (s[k]'a) _).mono ?_;rintro e F ⟨rfl,rfl⟩) | (at_builtin;refine wpList_append_own _ rfl _ _ 131 rfl w.heap.size 9 S (.string ByteArray.empty) 1 16 underlying131 T C D E rfl (by decide) u4 d.length (d.map eB) rfl (u.alloc _) ⟨wr.heap.size,0,none⟩ 1 1 [.string _] rfl rfl (cell_one_new _ _ _) (fun x r=>by simp at r;subst r;rfl) (by unfold maxLen;omega) (by omega) (by have:=q.size;simp;omega) ?_;intro Y Z f c _));obtain⟨J,K⟩:=fF u q f c;exact⟨⟨k+1,_,by omega,by simp;omega,by go_num,n,J,K⟩,by simp [intOf];omega⟩
      ·have M:Pl.H5 (s[k]'a)=false:=by simpa using B
       have U:Hid (Pl.BX s.data.toList=none):=t.none_ (by
        rw [Pl.EN _ _ l,G,Pl.NL _ _ p A ae M])
       simp only [Pl.H5,Bool.or_eq_false_iff] at M;have X:(((s[k]'a).toNat:Int)!=40)=true:=by rw [bne,show(((s[k]'a).toNat:Int)==40)=false from by rw [b40];exact M.1.1];rfl
       have q5:(((s[k]'a).toNat:Int)!=41)=true:=by rw [bne,show(((s[k]'a).toNat:Int)==41)=false from by rw [b41];exact M.1.2];rfl
       have q6:(((s[k]'a).toNat:Int)!=39)=true:=by rw [bne,show(((s[k]'a).toNat:Int)==39)=false from by rw [b39];exact M.2];rfl
       clear t l G o A p hw B M;go_wp2_with (go_at_call 70;refine(aZ (s[k]'a) _).mono ?_;rintro e F ⟨rfl,rfl⟩);go_ret2;exact⟨_,false,rfl,q,.inl ⟨U,rfl⟩⟩
  ·have U:Hid (Pl.BX s.data.toList=some d):=t.end_ (by simp;omega);go_wp2;go_ret2;exact⟨_,true,rfl,q,.inr ⟨d,U,rfl,u⟩⟩
def ZQ(s:ByteArray)(e:Ending):Prop :=
 (Pl.isNum s.data.toList=true/\∃d:ByteArray,d.data.toList=Pl.EY s.data.toList/\d.size<=s.size/\e=.returned (.tuple #[.string d,.bool (Pl.minus s.data.toList),.bool true])) \/
 (Pl.isNum s.data.toList=false/\∃d:ByteArray,∃b,e=.returned (.tuple #[.string d,.bool b,.bool false]))
theorem vT(s:ByteArray)(a:1<s.size)(h:(((s[0]'(by omega)).toNat:Int)==45)=true):Pl.minus s.data.toList=true:=by
 have b:0<s.data.toList.length:=by simp;omega
 rw [b45] at h;simp only [Pl.minus,Pl.K3 _ b,Bool.and_eq_true,decide_eq_true_eq];refine⟨by simpa using a,?_⟩;rw [bE s 0 (by omega)];exact h
theorem zS(s:ByteArray)(b:1<s.size)(h:(((s[0]'(by omega)).toNat:Int)==45)=false):Pl.minus s.data.toList=false:=by
 have a:0<s.data.toList.length:=by simp;omega
 rw [b45] at h;simp only [Pl.minus,Pl.K3 _ a,Bool.and_eq_false_iff,decide_eq_false_iff_not];right;rw [bE s 0 (by omega)];exact h
theorem pC(s:ByteArray)(a:¬1<s.size):Pl.minus s.data.toList=false:=by simp only [Pl.minus,Bool.and_eq_false_iff,decide_eq_false_iff_not];left;simpa using a
theorem eP(s:ByteArray)(i k:Nat):(s.extract i k).data.toList=(s.data.toList.drop i).take (k-i):=by rw [ByteArray.data_extract];simp [Array.toList_extract,List.extract_eq_take_drop]
theorem rX(s:ByteArray)(w:World)(A:s.size<=1000) :Calls prog 120 #[.string s] w fun e q=>ZQ s e/\w=q:=by
 by_cases u:1<s.size
 ·by_cases v:(((s[0]'(by omega)).toNat:Int)==45)=true
  ·have o:=h_ (vT s u v);go_enter func120,ntmps120;go_wp2;obtain⟨d,p⟩:∃d,d=s.extract 1 s.size:=⟨_,rfl⟩
   have l:Hid (d.data.toList=Pl.EY s.data.toList):=by show d.data.toList=_;rw [p,eP,Pl.EY,o.out,List.take_of_length_le (by simp)];simp
   have z:d.size+1=s.size:=by rw [p];simp;omega
   rw [<- p];clear p
   go_loopw [7] (fun i r=>∃k:Nat,k<=d.size/\i=.int .i64 k/\w=r/\Hid (∀j (h:j<d.data.toList.length),j<k->A3 d.data.toList[j]=true)) (fun i _=>d.size-(intOf i).toNat)
   case atStart=>exact⟨0,Nat.zero_le _,rfl,rfl,fun j _ t=>by omega⟩
   case round =>
    obtain⟨k,y,rfl,rfl,f⟩:=hrel;by_cases a:k<d.size
    ·have g:=bE d k a;by_cases b:A3 (d[k]'a)=true
     ·have m:Hid (∀j (h:j<d.data.toList.length),j<k+1->A3 d.data.toList[j]=true):=by
       intro j h t;by_cases e:j=k
       ·subst e;rw [g];exact b
       ·exact f.out j h (by omega)
      clear g f;go_wp2_with (go_at_call 119;refine(bI (d[k]'a) _).mono ?_;rintro e q ⟨rfl,rfl⟩);exact⟨⟨k+1,by omega,by go_num,trivial,m⟩,by simp [intOf];omega⟩
     ·have c:A3 (d[k]'a)=false:=by simpa using b
      have n:Hid (Pl.isNum s.data.toList=false):=by show Pl.isNum _=_;unfold Pl.isNum;rw [<- l.out];exact Pl.GJ _ k (by simpa using a) (by rw [g];exact c)
      clear g f b;go_wp2_with (go_at_call 119;refine(bI (d[k]'a) _).mono ?_;rintro e q ⟨rfl,rfl⟩)
      go_ret3
      exact⟨.inr ⟨n,_,_,rfl⟩,rfl⟩
    ·have n:Hid (Pl.isNum s.data.toList=true):=by
      show Pl.isNum _=_;unfold Pl.isNum;rw [<- l.out];exact Pl.I2 _ fun j h=>f.out j h (by simp at h;omega)
     go_wp2
     go_ret3
     exact⟨.inl ⟨n,d,l,by omega,by rw [o.out];rfl⟩,rfl⟩
  ·have x:(((s[0]'(by omega)).toNat:Int)==45)=false:=by simpa using v
   have o:=h_ (zS s u x);obtain⟨d,p⟩:∃d,d=s:=⟨_,rfl⟩
   subst p;have l:Hid (d.data.toList=Pl.EY d.data.toList):=by show d.data.toList=_;rw [Pl.EY,o.out];rfl
   clear v;go_enter func120,ntmps120;go_wp2
   go_loopw [7] (fun i r=>∃k:Nat,k<=d.size/\i=.int .i64 k/\w=r/\Hid (∀j (h:j<d.data.toList.length),j<k->A3 d.data.toList[j]=true)) (fun i _=>d.size-(intOf i).toNat)
   case atStart=>exact⟨0,Nat.zero_le _,rfl,rfl,fun j _ t=>by omega⟩
   case round =>
    obtain⟨k,y,rfl,rfl,f⟩:=hrel;by_cases a:k<d.size
    ·have g:=bE d k a;by_cases b:A3 (d[k]'a)=true
     ·have m:Hid (∀j (h:j<d.data.toList.length),j<k+1->A3 d.data.toList[j]=true):=by
       intro j h t;by_cases e:j=k
       ·subst e;rw [g];exact b
       ·exact f.out j h (by omega)
      clear g f;go_wp2_with (go_at_call 119;refine(bI (d[k]'a) _).mono ?_;rintro e q ⟨rfl,rfl⟩);exact⟨⟨k+1,by omega,by go_num,trivial,m⟩,by simp [intOf];omega⟩
     ·have c:A3 (d[k]'a)=false:=by simpa using b
      have n:Hid (Pl.isNum d.data.toList=false):=by show Pl.isNum _=_;unfold Pl.isNum;rw [<- l.out];exact Pl.GJ _ k (by simpa using a) (by rw [g];exact c)
      clear g f b;go_wp2_with (go_at_call 119;refine(bI (d[k]'a) _).mono ?_;rintro e q ⟨rfl,rfl⟩)
      go_ret3
      exact⟨.inr ⟨n,_,_,rfl⟩,rfl⟩
    ·have n:Hid (Pl.isNum d.data.toList=true):=by
      show Pl.isNum _=_;unfold Pl.isNum;rw [<- l.out];exact Pl.I2 _ fun j h=>f.out j h (by simp at h;omega)
     go_wp2
     go_ret3
     exact⟨.inl ⟨n,d,l,by omega,by rw [o.out];rfl⟩,rfl⟩
 ·have o:=h_ (pC s u);obtain⟨d,p⟩:∃d,d=s:=⟨_,rfl⟩
  subst p;have l:Hid (d.data.toList=Pl.EY d.data.toList):=by show d.data.toList=_;rw [Pl.EY,o.out];rfl
  go_enter func120,ntmps120
  go_wp2
  go_loopw [7] (fun i r=>∃k:Nat,k<=d.size/\i=.int .i64 k/\w=r/\Hid (∀j (h:j<d.data.toList.length),j<k->A3 d.data.toList[j]=true)) (fun i _=>d.size-(intOf i).toNat)
  case atStart=>exact⟨0,Nat.zero_le _,rfl,rfl,fun j _ t=>by omega⟩
  case round =>
   obtain⟨k,y,rfl,rfl,f⟩:=hrel;by_cases a:k<d.size
   ·have g:=bE d k a;by_cases b:A3 (d[k]'a)=true
    ·have m:Hid (∀j (h:j<d.data.toList.length),j<k+1->A3 d.data.toList[j]=true):=by
      intro j h t;by_cases e:j=k
      ·subst e;rw [g];exact b
      ·exact f.out j h (by omega)
     clear g f;go_wp2_with (go_at_call 119;refine(bI (d[k]'a) _).mono ?_;rintro e q ⟨rfl,rfl⟩);exact⟨⟨k+1,by omega,by go_num,trivial,m⟩,by simp [intOf];omega⟩
    ·have c:A3 (d[k]'a)=false:=by simpa using b
     have n:Hid (Pl.isNum d.data.toList=false):=by show Pl.isNum _=_;unfold Pl.isNum;rw [<- l.out];exact Pl.GJ _ k (by simpa using a) (by rw [g];exact c)
     clear g f b;go_wp2_with (go_at_call 119;refine(bI (d[k]'a) _).mono ?_;rintro e q ⟨rfl,rfl⟩)
     go_ret3
     exact⟨.inr ⟨n,_,_,rfl⟩,rfl⟩
   ·have n:Hid (Pl.isNum d.data.toList=true):=by
     show Pl.isNum _=_;unfold Pl.isNum;rw [<- l.out];exact Pl.I2 _ fun j h=>f.out j h (by simp at h;omega)
    go_wp2
    go_ret3
    exact⟨.inl ⟨n,d,l,by omega,by rw [o.out];rfl⟩,rfl⟩
end
end Go.Proofs.YtkgbdddkcjpgfaaGreatDoor
