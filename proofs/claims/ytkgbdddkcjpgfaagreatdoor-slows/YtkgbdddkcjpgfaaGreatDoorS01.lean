import Derived.Test.YtkgbdddkcjpgfaaGreatDoorProg
import Derived.WalkKit
import Derived.WalkSpells
import Derived.WalkLawsBesides
namespace Go.Proofs.YtkgbdddkcjpgfaaGreatDoor
set_option maxHeartbeats 1000000
set_option maxRecDepth 100000
section
namespace Pl
def isDig(c:UInt8):Bool:=decide (48<=c.toNat)&&decide (c.toNat<=57)
def signs:List UInt8:=[43,45,42,47,60,61,62,63,33]
def low(c:UInt8):Bool:=decide (97<=c.toNat)&&decide (c.toNat<=122)
def inW(c:UInt8):Bool:=decide (c∈signs)||(low c||isDig c)
theorem low_yes(c:UInt8)(h1:(97:Int)<=c.toNat)(h2:(c.toNat:Int)<=122):low c=true:=by simp [low];omega
theorem low_no(c:UInt8)(h:¬((97:Int)<=c.toNat/\(c.toNat:Int)<=122)):low c=false:=by simp only [low,Bool.and_eq_false_iff,decide_eq_false_iff_not];omega
theorem inW_sign(c:UInt8)(h:c∈signs):inW c=true:=by simp [inW,h]
theorem inW_else(c:UInt8)(h:c∉signs):inW c=(low c||isDig c):=by simp [inW,h]
theorem toNat_beq(a b:UInt8):((a.toNat:Int)==(b.toNat:Int))=(a==b):=by
 by_cases h:a=b
 ·subst h;simp
 ·have:¬(a.toNat:Int)=b.toNat:=fun e=>h (UInt8.toNat_inj.1 (by omega));rw [beq_eq_false_iff_ne.2 this,beq_eq_false_iff_ne.2 h]
theorem take_step{α:Type}(l:List α)(c:α)(k:Nat)(h:k<l.length)(hn:c∉l.take k)(hc:¬l[k]=c):c∉l.take (k+1):=by rw [List.take_succ_eq_append_getElem h];simp only [List.mem_append,List.mem_singleton,not_or];exact⟨hn,fun e=>hc e.symm⟩
end Pl
end
open Go.Proofs.Tryz
open Pl (inW isDig)
section
open Go.RowKit
theorem aP{a b:Bool}(h:a=b):Ending.returned (.bool a)=.returned (.bool b):=by rw [h]
theorem bI(c:UInt8)(w:World) :Calls prog 119 #[.int .u8 (c.toNat:Int)] w fun e w'=>e=.returned (.bool (isDig c))/\w=w':=by
 by_cases h1:(48:Int)<=c.toNat
 ·by_cases h2:(c.toNat:Int)<=57
  ·go_enter func119,ntmps119
   go_wp2
   go_ret;exact⟨by simp [isDig];omega,rfl⟩
  ·go_enter func119,ntmps119
   go_wp2
   go_ret;exact⟨by simp [isDig];omega,rfl⟩
 ·go_enter func119,ntmps119
  go_wp2
  go_ret;exact⟨by simp [isDig];omega,rfl⟩
theorem aZ(c:UInt8)(w:World) :Calls prog 70 #[.int .u8 (c.toNat:Int)] w fun e w'=>e=.returned (.bool (inW c))/\w=w':=by
 go_enter func70,ntmps70
 go_wp2
 go_loop [4] (fun i=>∃k:Nat,k<=9/\i=.int .i64 k/\c∉Pl.signs.take k) (fun i=>9-(intOf i).toNat)
 case atStart=>exact⟨0,Nat.zero_le _,rfl,by simp⟩
 case round =>
  obtain⟨k,hk,rfl,hn⟩:=hrel;by_cases hlt:k<9
  ·by_cases hc:Pl.signs[k]'hlt=c
   ·have hs:((Pl.signs[k]'hlt).toNat:Int)==(c.toNat:Int):=by rw [Pl.toNat_beq];simp [hc]
    have hs2:((ByteArray.mk #[43,45,42,47,60,61,62,63,33])[k].toNat:Int)==(c.toNat:Int):=hs;have hin:inW c=true:=Pl.inW_sign c (hc▸List.getElem_mem _);clear hs hn hc;go_wp2;go_ret;exact⟨rfl,rfl⟩
   ·have hs:(((Pl.signs[k]'hlt).toNat:Int)==(c.toNat:Int))=false:=by rw [Pl.toNat_beq];simp [hc]
    have hs2:(((ByteArray.mk #[43,45,42,47,60,61,62,63,33])[k].toNat:Int)==(c.toNat:Int))=false:=hs;have hn2:=Pl.take_step Pl.signs c k hlt hn hc;clear hs hn hc;go_wp2;exact⟨⟨k+1,by omega,by go_num,hn2⟩,by simp [intOf];omega⟩
  ·have hn2:c∉Pl.signs:=by rwa [List.take_of_length_le (by simp [Pl.signs];omega)] at hn
   have hin:Hid (inW c=(Pl.low c||isDig c)):=Pl.inW_else c hn2;clear hn hn2;by_cases h1:(97:Int)<=c.toNat
   ·by_cases h2:(c.toNat:Int)<=122
    ·go_wp2
     go_ret;exact⟨aP (by rw [hin.out,Pl.low_yes c h1 h2];rfl),rfl⟩
    ·have hl:Hid (Pl.low c=false):=Pl.low_no c (by omega);go_wp2_with (go_at_call 119;refine(bI c _).mono ?_;rintro e w' ⟨rfl,rfl⟩);go_ret;exact⟨aP (by rw [hin.out,hl.out];rfl),rfl⟩
   ·have hl:Hid (Pl.low c=false):=Pl.low_no c (by omega);go_wp2_with (go_at_call 119;refine(bI c _).mono ?_;rintro e w' ⟨rfl,rfl⟩);go_ret;exact⟨aP (by rw [hin.out,hl.out];rfl),rfl⟩
end
section
variable {l:List UInt8} {pre:List (List UInt8)} {k:Nat}
namespace Pl
def blank(c:UInt8):Bool:=c==32||c==10
def punct(c:UInt8):Bool:=c==40||c==41||c==39
def tkF:Nat->List UInt8->Option (List (List UInt8))
 | 0,_=>some []
 | _+1,[]=>some []
 | n+1,c::r =>
  if blank c then tkF n r
  else if c==35 then
   match r with
   | []=>none
   | d::q=>if d==116||d==102 then(tkF n q).map ([c,d]::·) else none
  else if inW c then(tkF n (r.dropWhile inW)).map ((c::r.takeWhile inW)::·)
  else if punct c then(tkF n r).map ([c]::·)
  else none
theorem eQ(p:UInt8->Bool)(l:List UInt8):(l.dropWhile p).length<=l.length:=(List.dropWhile_sublist p).length_le
theorem eT:∀(n m:Nat)(l:List UInt8),l.length<=n->l.length<=m->tkF n l=tkF m l
 | 0,0,_,_,_=>rfl
 | 0,m+1,[],_,_=>rfl
 | 0,m+1,_::_,h,_=>by simp at h
 | n+1,0,[],_,_=>rfl
 | n+1,0,_::_,_,h=>by simp at h
 | n+1,m+1,[],_,_=>rfl
 | n+1,m+1,c::r,hn,hm=>by
  simp only [List.length_cons] at hn hm;have h1:=eT n m r (by omega) (by omega);have h2:=eQ inW r;have h3:=eT n m (r.dropWhile inW) (by omega) (by omega);unfold tkF;rw [h1,h3]
  cases r with
  | nil=>rfl
  | cons d q =>simp only [List.length_cons] at hn hm;dsimp only;rw [eT n m q (by omega) (by omega)]
def toks(l:List UInt8):Option (List (List UInt8)):=tkF l.length l
theorem lB(n:Nat)(l:List UInt8)(h:l.length<=n):tkF n l=toks l:=eT _ _ _ h (Nat.le_refl _)
theorem wX:toks []=some []:=rfl
theorem rN(c:UInt8)(r:List UInt8)(h:blank c=true):toks (c::r)=toks r:=by simp [toks,tkF,h]
theorem toks_hash0:toks [35]=none:=by decide
theorem toks_hash(d:UInt8)(q:List UInt8)(h:(d==116||d==102)=true):toks (35::d::q)=(toks q).map ([35,d]::·):=by
 have hb:blank 35=false:=by decide
 show tkF (q.length+1+1) (35::d::q)=_;unfold tkF;dsimp only;rw [lB _ q (by omega)];simp only [hb,h];rfl
theorem toks_hashno(d:UInt8)(q:List UInt8)(h:(d==116||d==102)=false):toks (35::d::q)=none:=by
 have hb:blank 35=false:=by decide
 show tkF (q.length+1+1) (35::d::q)=_;unfold tkF;simp only [hb,h];rfl
theorem pN(c:UInt8)(h:inW c=true):blank c=false/\(c==35)=false:=by
 by_cases h0:blank c=true
 ·simp only [blank,Bool.or_eq_true,beq_iff_eq] at h0;rcases h0 with rfl | rfl<;>exact absurd h (by decide)
 ·refine⟨by simpa using h0,?_⟩;by_cases h1:c=35
  ·subst h1;exact absurd h (by decide)
  ·simpa using h1
theorem toks_word(c:UInt8)(r:List UInt8)(h:inW c=true):toks (c::r)=(toks (r.dropWhile inW)).map ((c::r.takeWhile inW)::·):=by obtain⟨h1,h2⟩:=pN c h;show tkF (r.length+1) (c::r)=_;unfold tkF;rw [lB _ (r.dropWhile inW) (eQ _ _)];simp [h1,h2,h]
theorem toks_punct(c:UInt8)(r:List UInt8)(h0:inW c=false)(h:punct c=true):toks (c::r)=(toks r).map ([c]::·):=by
 have h1:blank c=false/\(c==35)=false:=by simp only [punct,Bool.or_eq_true,beq_iff_eq] at h;rcases h with(rfl | rfl) | rfl<;>decide
 show tkF (r.length+1) (c::r)=_;unfold tkF;rw [lB _ r (Nat.le_refl _)];simp [h1.1,h1.2,h,h0]
theorem toks_bad(c:UInt8)(r:List UInt8)(h0:blank c=false)(h1:(c==35)=false)(h2:inW c=false)(h3:punct c=false):toks (c::r)=none:=by show tkF (r.length+1) (c::r)=_;unfold tkF;simp [h0,h1,h2,h3]
def From(l:List UInt8)(pre:List (List UInt8))(k:Nat):Prop:=toks l=(toks (l.drop k)).map (pre++·)
theorem From.start(l:List UInt8):From l [] 0:=by unfold From;simp
theorem From.end_(h:From l pre k)(hk:l.length<=k):toks l=some pre:=by rw [h,List.drop_of_length_le hk,wX];simp
theorem drop_at{α:Type}(l:List α)(k:Nat)(h:k<l.length):l.drop k=l[k]::l.drop (k+1):=List.drop_eq_getElem_cons h
theorem From.blank(h:From l pre k)(hk:k<l.length)(hb:Pl.blank l[k]=true):From l pre (k+1):=by unfold From at *;rw [h,drop_at l k hk,rN _ _ hb]
theorem From.none_(h:From l pre k)(hn:toks (l.drop k)=none):toks l=none:=by rw [h,hn];rfl
theorem From.more{m:Nat}{t:List UInt8}(h:From l pre k)(hn:toks (l.drop k)=(toks (l.drop m)).map (t::·)):From l (pre++[t]) m:=by
 unfold From at *;rw [h,hn]
 cases toks (l.drop m)<;>simp
theorem take_of_all(p:UInt8->Bool):∀(l:List UInt8)(m:Nat),m<=l.length->(∀j (h:j<l.length),j<m->p l[j]=true)->(∀h:m<l.length,p (l[m])=false)->l.takeWhile p=l.take m/\l.dropWhile p=l.drop m
 | [],m,_,_,_=>by simp
 | c::r,0,_,_,h2=>by have:=h2 (by simp);simp at this;simp [List.takeWhile,List.dropWhile,this]
 | c::r,m+1,hm,h1,h2=>by have h0:p c=true:=h1 0 (by simp) (by omega);have ih:=take_of_all p r m (by simpa using hm) (fun j h hj=>by have:=h1 (j+1) (by simpa using h) (by omega);simpa using this) (fun h=>by have:=h2 (by simpa using h);simpa using this);simp [List.takeWhile,List.dropWhile,h0,ih.1,ih.2]
theorem From.word{m:Nat}(h:From l pre k)(hk:k<l.length)(hw:inW l[k]=true)(hkm:k+1<=m)(hm:m<=l.length)
  (h1:∀j (h:j<l.length),k<j->j<m->inW l[j]=true) (h2:∀h:m<l.length,inW l[m]=false):From l (pre++[(l.drop k).take (m-k)]) m:=by
 refine h.more ?_;have hd:=drop_at l k hk
 have ht:=take_of_all inW (l.drop (k+1)) (m-(k+1)) (by simp;omega)
  (fun j hj hjm=>by
   rw [List.getElem_drop]
   exact h1 _ (by simp at hj;omega) (by omega) (by omega))
  (fun hj=>by
   rw [List.getElem_drop];have e:k+1+(m-(k+1))=m:=by omega
   simp only [e]
   exact h2 (by simp at hj;omega))
 rw [hd,toks_word _ _ hw,ht.1,ht.2];have e1:m-k=(m-(k+1))+1:=by omega
 have e2:List.drop (m-(k+1)) (List.drop (k+1) l)=l.drop m:=by rw [List.drop_drop];congr 1;omega
 rw [e1,e2,List.take_succ_cons]
end Pl
end
section
open Go.RowKit
def eB(l:List UInt8):Value:=.string ⟨l.toArray⟩
theorem Tryz.infoStr:(prog.info? 9).map (fun i=>(i.zero,i.size,i.bytes))=some (some (.string ByteArray.empty),1,16):=by kernel_rfl
theorem oB(s:ByteArray)(i k:Nat):Value.string (s.extract i k)=eB ((s.data.toList.drop i).take (k-i)):=by
 unfold eB
 congr 1
 apply ByteArray.ext;rw [ByteArray.data_extract];apply Array.toList_inj.1;simp [Array.toList_extract,List.extract_eq_take_drop]
theorem bE(s:ByteArray)(k:Nat)(h:k<s.size):s.data.toList[k]'(by simpa using h)=s[k]:=by rw [Array.getElem_toList];rfl
def boolN:Value->Nat | .bool true=>1 | _=>0
theorem b32(c:UInt8):((c.toNat:Int)==32)=(c==32):=Pl.toNat_beq c 32
theorem b10(c:UInt8):((c.toNat:Int)==10)=(c==10):=Pl.toNat_beq c 10
theorem b35(c:UInt8):((c.toNat:Int)==35)=(c==35):=Pl.toNat_beq c 35
theorem b116(c:UInt8):((c.toNat:Int)==116)=(c==116):=Pl.toNat_beq c 116
theorem b102(c:UInt8):((c.toNat:Int)==102)=(c==102):=Pl.toNat_beq c 102
theorem b40(c:UInt8):((c.toNat:Int)==40)=(c==40):=Pl.toNat_beq c 40
theorem b41(c:UInt8):((c.toNat:Int)==41)=(c==41):=Pl.toNat_beq c 41
theorem b39(c:UInt8):((c.toNat:Int)==39)=(c==39):=Pl.toNat_beq c 39
theorem b45(c:UInt8):((c.toNat:Int)==45)=(c==45):=Pl.toNat_beq c 45
def TokPost(bs:List UInt8)(w:World)(e:Ending)(w':World):Prop :=
 ∃v b,e=.returned (.tuple #[v,.bool b])/\Below w.heap.size w w' /\
  ((Pl.toks bs=none/\b=false)\/∃l,Pl.toks bs=some l/\b=true/\w'.ownsRow w.heap.size 9 1 v l.length (l.map eB))
theorem fF{w wr w3:World}{s:ByteArray}{k m:Nat}{pre:List (List UInt8)}{v v':Value}{o:Obj}(HO:wr.ownsRow w.heap.size 9 1 v pre.length (pre.map eB))(HB:Below w.heap.size w wr)
  (hown':w3.ownsRow w.heap.size 9 1 v' (pre.length+1) (pre.map eB++[Value.string (s.extract k m)])) (hg:(wr.alloc o).grownBy w3 v.ownBlock) :
  Hid (w3.ownsRow w.heap.size 9 1 v' (pre++[(s.data.toList.drop k).take (m-k)]).length ((pre++[(s.data.toList.drop k).take (m-k)]).map eB))/\Hid (Below w.heap.size w w3):=by
 constructor
 ·show w3.ownsRow _ _ _ _ _ _;rw [oB] at hown';simpa using hown'
 ·exact(HB.alloc HB.size o).grown hg (by have:=HB.size;simp;omega) (fun j hj=>(HO.lt j hj).1)
theorem rT(s:ByteArray)(w:World)(hs:s.size<=1000) :Calls prog 69 #[.string s] w fun e w'=>TokPost s.data.toList w e w':=by
 obtain⟨i0,hi,hz0,hz1,hz2⟩:=info_parts Tryz.infoStr;go_enter func69,ntmps69;go_wp2
 go_loopw [4,5] (fun v i wr=>∃(k:Nat) (pre:List (List UInt8)),k<=s.size/\pre.length<=k/\i=.int .i64 k/\Hid (Pl.From s.data.toList pre k)/\Hid (wr.ownsRow w.heap.size 9 1 v pre.length (pre.map eB))/\Hid (Below w.heap.size w wr))
  (fun _ i _=>s.size-(intOf i).toNat)
 case atStart=>exact⟨0,[],Nat.zero_le _,Nat.zero_le _,rfl,Pl.From.start _,World.ownsRow_nil _ _ _ _,Below.refl _ _⟩
 case round =>
  obtain⟨k,pre,hk,hpk,rfl,HF,HO,HB⟩:=hrel;by_cases hlt:k<s.size
  ·have hkl:k<s.data.toList.length:=by simpa using hlt
   have hd:=bE s k hlt;by_cases hb:Pl.blank (s[k]'hlt)=true
   ·have HF2:Hid (Pl.From s.data.toList pre (k+1)):=HF.out.blank hkl (by rw [hd];exact hb);clear HF hkl hd;by_cases h32:(s[k]'hlt==32)=true
    ·have q1:(((s[k]'hlt).toNat:Int)==32)=true:=by rw [b32];exact h32
     clear h32 hb;go_wp2_with (go_at_call 70;refine(aZ (s[k]'hlt) _).mono ?_;rintro e w' ⟨rfl,rfl⟩);exact⟨⟨k+1,pre,by omega,by omega,by go_num,HF2,HO,HB⟩,by simp [intOf];omega⟩
    ·have q1:(((s[k]'hlt).toNat:Int)==32)=false:=by rw [b32];simpa using h32
     have q2:(((s[k]'hlt).toNat:Int)==10)=true:=by rw [b10];simpa [Pl.blank,h32] using hb
     clear h32 hb;go_wp2_with (go_at_call 70;refine(aZ (s[k]'hlt) _).mono ?_;rintro e w' ⟨rfl,rfl⟩);exact⟨⟨k+1,pre,by omega,by omega,by go_num,HF2,HO,HB⟩,by simp [intOf];omega⟩
   ·have hb0:Pl.blank (s[k]'hlt)=false:=by simpa using hb
    have hb1:=hb0;simp only [Pl.blank,Bool.or_eq_false_iff] at hb1;have q1:(((s[k]'hlt).toNat:Int)==32)=false:=by rw [b32];exact hb1.1
    have q2:(((s[k]'hlt).toNat:Int)==10)=false:=by rw [b10];exact hb1.2
    clear hb1 hb;by_cases h35:(s[k]'hlt==35)=true
    ·have q3:(((s[k]'hlt).toNat:Int)==35)=true:=by rw [b35];exact h35
     by_cases h2:s.size<k+2
     ·have he:Hid (Pl.toks s.data.toList=none):=HF.out.none_ (by
       rw [Pl.drop_at _ _ hkl,hd,List.drop_of_length_le (by simp;omega),(by simpa using h35:s[k]'hlt=35)];exact Pl.toks_hash0)
      clear HF hkl hd h35 hb0;go_wp2_with (go_at_call 70;refine(aZ (s[k]'hlt) _).mono ?_;rintro e w' ⟨rfl,rfl⟩);go_ret2;exact⟨_,false,rfl,HB.out,.inl ⟨he.out,rfl⟩⟩
     ·have hlt2:k+1<s.size:=by omega
      have hd2:=bE s (k+1) hlt2;have hkl2:k+1<s.data.toList.length:=by simpa using hlt2
      have q5:decide ((s.size:Int)<(k:Int)+2)=false:=by simp;omega
      by_cases htf:(s[k+1]'hlt2==116||s[k+1]'hlt2==102)=true
      ·have HF2:Hid (Pl.From s.data.toList (pre++[(s.data.toList.drop k).take (k+2-k)]) (k+2)):=HF.out.more (by
        rw [Pl.drop_at _ _ hkl,Pl.drop_at _ _ hkl2,hd,hd2,(by simpa using h35:s[k]'hlt=35),Pl.toks_hash _ _ htf]
        simp)
       clear HF hkl hd h35 hb0 hkl2 hd2;by_cases h116:(s[k+1]'hlt2==116)=true
       ·have q4:(((s[k+1]'hlt2).toNat:Int)!=116)=false:=by rw [bne,show(((s[k+1]'hlt2).toNat:Int)==116)=true from by rw [b116];exact h116];rfl
        clear h116 htf;go_wp2_with (first | (go_at_call 70;refine(aZ (s[k]'hlt) _).mono ?_;rintro e w' ⟨rfl,rfl⟩) | (at_builtin;refine wpList_append_own _ rfl _ _ 131 rfl w.heap.size 9 i0 (.string ByteArray.empty) 1 16 underlying131 hi hz0 hz1 hz2 rfl (by decide) u4 pre.length (pre.map eB) rfl (HO.out.alloc _) ⟨wr.heap.size,0,none⟩ 1 1 [.string _] rfl rfl (cell_one_new _ _ _) (fun x hx=>by simp at hx;subst hx;rfl) (by unfold maxLen;omega) (by omega) (by have:=HB.out.size;simp;omega) ?_;intro v' w3 hown' hgrow3 _));obtain⟨a1,a2⟩:=fF HO.out HB.out hown' hgrow3;exact⟨⟨k+2,_,by omega,by simp;omega,by go_num,HF2,a1,a2⟩,by simp [intOf];omega⟩
       ·have q4:(((s[k+1]'hlt2).toNat:Int)!=116)=true:=by rw [bne,show(((s[k+1]'hlt2).toNat:Int)==116)=false from by rw [b116];simpa using h116];rfl
        have q6:(((s[k+1]'hlt2).toNat:Int)!=102)=false:=by rw [bne,show(((s[k+1]'hlt2).toNat:Int)==102)=true from by rw [b102];simpa [h116] using htf];rfl
        clear h116 htf;go_wp2_with (first | (go_at_call 70;refine(aZ (s[k]'hlt) _).mono ?_;rintro e w' ⟨rfl,rfl⟩) | (at_builtin;refine wpList_append_own _ rfl _ _ 131 rfl w.heap.size 9 i0 (.string ByteArray.empty) 1 16 underlying131 hi hz0 hz1 hz2 rfl (by decide) u4 pre.length (pre.map eB) rfl (HO.out.alloc _) ⟨wr.heap.size,0,none⟩ 1 1 [.string _] rfl rfl (cell_one_new _ _ _) (fun x hx=>by simp at hx;subst hx;rfl) (by unfold maxLen;omega) (by omega) (by have:=HB.out.size;simp;omega) ?_;intro v' w3 hown' hgrow3 _));obtain⟨a1,a2⟩:=fF HO.out HB.out hown' hgrow3;exact⟨⟨k+2,_,by omega,by simp;omega,by go_num,HF2,a1,a2⟩,by simp [intOf];omega⟩
      ·have htf0:(s[k+1]'hlt2==116||s[k+1]'hlt2==102)=false:=by simpa using htf
       have he:Hid (Pl.toks s.data.toList=none):=HF.out.none_ (by
        rw [Pl.drop_at _ _ hkl,Pl.drop_at _ _ hkl2,hd,hd2,(by simpa using h35:s[k]'hlt=35),Pl.toks_hashno _ _ htf0])
       simp only [Bool.or_eq_false_iff] at htf0;have q4:(((s[k+1]'hlt2).toNat:Int)!=116)=true:=by rw [bne,show(((s[k+1]'hlt2).toNat:Int)==116)=false from by rw [b116];exact htf0.1];rfl
       have q6:(((s[k+1]'hlt2).toNat:Int)!=102)=true:=by rw [bne,show(((s[k+1]'hlt2).toNat:Int)==102)=false from by rw [b102];exact htf0.2];rfl
       clear HF hkl hd h35 hb0 hkl2 hd2 htf htf0;go_wp2_with (go_at_call 70;refine(aZ (s[k]'hlt) _).mono ?_;rintro e w' ⟨rfl,rfl⟩);go_ret2;exact⟨_,false,rfl,HB.out,.inl ⟨he.out,rfl⟩⟩
    ·have h350:(s[k]'hlt==35)=false:=by simpa using h35
     have q3:(((s[k]'hlt).toNat:Int)==35)=false:=by rw [b35];exact h350
     by_cases hw:inW (s[k]'hlt)=true
     ·have HK:Hid (k<s.data.toList.length):=hkl;have HD:Hid (inW (s.data.toList[k]'hkl)=true):=by rw [hd];exact hw
      clear hd h35 h350 hb0;go_wp2_with (go_at_call 70;refine(aZ (s[k]'hlt) _).mono ?_;rintro e w' ⟨rfl,rfl⟩)
      go_loopw [6,9] (fun kk mo wq=>∃(m:Nat)(b:Bool),k+1<=m/\m<=s.size/\kk=.int .i64 m/\mo=.bool b/\wr=wq/\Hid (∀j (h:j<s.data.toList.length),k<j->j<m->inW s.data.toList[j]=true)/\Hid (b=false->∀h:m<s.data.toList.length,inW s.data.toList[m]=false))
       (fun kk mo _=>s.size-(intOf kk).toNat+boolN mo)
      case atStart=>exact⟨k+1,true,Nat.le_refl _,by omega,by go_num,rfl,rfl,fun j h h1 h2=>by omega,fun h=>by cases h⟩
      case round =>
       obtain⟨m,b,hkm,hms,rfl,rfl,rfl,HA,HN⟩:=hrel;by_cases hb:b=true
       ·subst hb;by_cases hm2:m<s.size
        ·have hdm:=bE s m hm2;have hml:m<s.data.toList.length:=by simpa using hm2
         by_cases hwm:inW (s[m]'hm2)=true
         ·have HA2:Hid (∀j (h:j<s.data.toList.length),k<j->j<m+1->inW s.data.toList[j]=true):=by
           intro j h h1 h2;by_cases hj:j=m
           ·subst hj;rw [hdm];exact hwm
           ·exact HA.out j h h1 (by omega)
          clear hdm hml HA HN HF HD HK hkl;go_wp2_with (go_at_call 70;refine(aZ (s[m]'hm2) _).mono ?_;rintro e w' ⟨rfl,rfl⟩);exact⟨⟨m+1,true,by omega,by omega,by go_num,by simp,trivial,HA2,fun h=>by cases h⟩,by simp [intOf,boolN];omega⟩
         ·have hwm0:inW (s[m]'hm2)=false:=by simpa using hwm
          have HN2:Hid (∀h:m<s.data.toList.length,inW s.data.toList[m]=false):=fun h=>by rw [hdm];exact hwm0
          clear hdm hml HN HF HD HK hkl hwm;go_wp2_with (go_at_call 70;refine(aZ (s[m]'hm2) _).mono ?_;rintro e w' ⟨rfl,rfl⟩);exact⟨⟨m,false,by omega,by omega,rfl,by simp,trivial,HA,fun _=>HN2.out⟩,by simp [intOf,boolN]⟩
        ·have HF2:Hid (Pl.From s.data.toList (pre++[(s.data.toList.drop k).take (m-k)]) m):=HF.out.word HK.out HD.out hkm (by simpa using hms) HA.out (fun h=>by simp at h;omega);clear HA HN HF HD HK hkl;go_wp2_with (first | (at_builtin;refine wpList_append_own _ rfl _ _ 131 rfl w.heap.size 9 i0 (.string ByteArray.empty) 1 16 underlying131 hi hz0 hz1 hz2 rfl (by decide) u4 pre.length (pre.map eB) rfl (HO.out.alloc _) ⟨wr.heap.size,0,none⟩ 1 1 [.string _] rfl rfl (cell_one_new _ _ _) (fun x hx=>by simp at hx;subst hx;rfl) (by unfold maxLen;omega) (by omega) (by have:=HB.out.size;simp;omega) ?_;intro v' w3 hown' hgrow3 _));obtain⟨a1,a2⟩:=fF HO.out HB.out hown' hgrow3;exact⟨⟨m,_,by omega,by simp;omega,by go_num,HF2,a1,a2⟩,by simp [intOf];omega⟩
       ·have hb0:b=false:=by simpa using hb
        subst hb0;have HF2:Hid (Pl.From s.data.toList (pre++[(s.data.toList.drop k).take (m-k)]) m):=HF.out.word HK.out HD.out hkm (by simpa using hms) HA.out (HN.out rfl);clear HA HN HF HD HK hkl;go_wp2_with (first | (at_builtin;refine wpList_append_own _ rfl _ _ 131 rfl w.heap.size 9 i0 (.string ByteArray.empty) 1 16 underlying131 hi hz0 hz1 hz2 rfl (by decide) u4 pre.length (pre.map eB) rfl (HO.out.alloc _) ⟨wr.heap.size,0,none⟩ 1 1 [.string _] rfl rfl (cell_one_new _ _ _) (fun x hx=>by simp at hx;subst hx;rfl) (by unfold maxLen;omega) (by omega) (by have:=HB.out.size;simp;omega) ?_;intro v' w3 hown' hgrow3 _));obtain⟨a1,a2⟩:=fF HO.out HB.out hown' hgrow3;exact⟨⟨m,_,by omega,by simp;omega,by go_num,HF2,a1,a2⟩,by simp [intOf];omega⟩
     ·have hw0:inW (s[k]'hlt)=false:=by simpa using hw
      by_cases hp:Pl.punct (s[k]'hlt)=true
      ·have HF2:Hid (Pl.From s.data.toList (pre++[(s.data.toList.drop k).take (k+1-k)]) (k+1)):=HF.out.more (by
        rw [Pl.drop_at _ _ hkl,hd,Pl.toks_punct _ _ hw0 hp]
        simp)
       simp only [Pl.punct,Bool.or_eq_true,beq_iff_eq] at hp;clear HF hkl hd h35 h350 hb0 hw;rcases hp with(hp | hp) | hp
       ·have q4:(((s[k]'hlt).toNat:Int)!=40)=false:=by rw [bne,show(((s[k]'hlt).toNat:Int)==40)=true from by rw [b40];simpa using hp];rfl
        clear hp;go_wp2_with (first | (go_at_call 70;refine(aZ (s[k]'hlt) _).mono ?_;rintro e w' ⟨rfl,rfl⟩) | (at_builtin;refine wpList_append_own _ rfl _ _ 131 rfl w.heap.size 9 i0 (.string ByteArray.empty) 1 16 underlying131 hi hz0 hz1 hz2 rfl (by decide) u4 pre.length (pre.map eB) rfl (HO.out.alloc _) ⟨wr.heap.size,0,none⟩ 1 1 [.string _] rfl rfl (cell_one_new _ _ _) (fun x hx=>by simp at hx;subst hx;rfl) (by unfold maxLen;omega) (by omega) (by have:=HB.out.size;simp;omega) ?_;intro v' w3 hown' hgrow3 _));obtain⟨a1,a2⟩:=fF HO.out HB.out hown' hgrow3;exact⟨⟨k+1,_,by omega,by simp;omega,by go_num,HF2,a1,a2⟩,by simp [intOf];omega⟩
       ·have q4:(((s[k]'hlt).toNat:Int)!=40)=true:=by rw [bne,show(((s[k]'hlt).toNat:Int)==40)=false from by rw [b40];simp [hp]];rfl
        have q5:(((s[k]'hlt).toNat:Int)!=41)=false:=by rw [bne,show(((s[k]'hlt).toNat:Int)==41)=true from by rw [b41];simpa using hp];rfl
        clear hp;go_wp2_with (first | (go_at_call 70;refine(aZ (s[k]'hlt) _).mono ?_;rintro e w' ⟨rfl,rfl⟩) | (at_builtin;refine wpList_append_own _ rfl _ _ 131 rfl w.heap.size 9 i0 (.string ByteArray.empty) 1 16 underlying131 hi hz0 hz1 hz2 rfl (by decide) u4 pre.length (pre.map eB) rfl (HO.out.alloc _) ⟨wr.heap.size,0,none⟩ 1 1 [.string _] rfl rfl (cell_one_new _ _ _) (fun x hx=>by simp at hx;subst hx;rfl) (by unfold maxLen;omega) (by omega) (by have:=HB.out.size;simp;omega) ?_;intro v' w3 hown' hgrow3 _));obtain⟨a1,a2⟩:=fF HO.out HB.out hown' hgrow3;exact⟨⟨k+1,_,by omega,by simp;omega,by go_num,HF2,a1,a2⟩,by simp [intOf];omega⟩
       ·have q4:(((s[k]'hlt).toNat:Int)!=40)=true:=by rw [bne,show(((s[k]'hlt).toNat:Int)==40)=false from by rw [b40];simp [hp]];rfl
        have q5:(((s[k]'hlt).toNat:Int)!=41)=true:=by rw [bne,show(((s[k]'hlt).toNat:Int)==41)=false from by rw [b41];simp [hp]];rfl
        have q6:(((s[k]'hlt).toNat:Int)!=39)=false:=by rw [bne,show(((s[k]'hlt).toNat:Int)==39)=true from by rw [b39];simpa using hp];rfl
        clear hp;go_wp2_with (first | (go_at_call 70;refine(aZ (s[k]'hlt) _).mono ?_;rintro e w' ⟨rfl,rfl⟩) | (at_builtin;refine wpList_append_own _ rfl _ _ 131 rfl w.heap.size 9 i0 (.string ByteArray.empty) 1 16 underlying131 hi hz0 hz1 hz2 rfl (by decide) u4 pre.length (pre.map eB) rfl (HO.out.alloc _) ⟨wr.heap.size,0,none⟩ 1 1 [.string _] rfl rfl (cell_one_new _ _ _) (fun x hx=>by simp at hx;subst hx;rfl) (by unfold maxLen;omega) (by omega) (by have:=HB.out.size;simp;omega) ?_;intro v' w3 hown' hgrow3 _));obtain⟨a1,a2⟩:=fF HO.out HB.out hown' hgrow3;exact⟨⟨k+1,_,by omega,by simp;omega,by go_num,HF2,a1,a2⟩,by simp [intOf];omega⟩
      ·have hp0:Pl.punct (s[k]'hlt)=false:=by simpa using hp
       have he:Hid (Pl.toks s.data.toList=none):=HF.out.none_ (by
        rw [Pl.drop_at _ _ hkl,hd,Pl.toks_bad _ _ hb0 h350 hw0 hp0])
       simp only [Pl.punct,Bool.or_eq_false_iff] at hp0;have q4:(((s[k]'hlt).toNat:Int)!=40)=true:=by rw [bne,show(((s[k]'hlt).toNat:Int)==40)=false from by rw [b40];exact hp0.1.1];rfl
       have q5:(((s[k]'hlt).toNat:Int)!=41)=true:=by rw [bne,show(((s[k]'hlt).toNat:Int)==41)=false from by rw [b41];exact hp0.1.2];rfl
       have q6:(((s[k]'hlt).toNat:Int)!=39)=true:=by rw [bne,show(((s[k]'hlt).toNat:Int)==39)=false from by rw [b39];exact hp0.2];rfl
       clear HF hkl hd h35 h350 hb0 hw hp hp0;go_wp2_with (go_at_call 70;refine(aZ (s[k]'hlt) _).mono ?_;rintro e w' ⟨rfl,rfl⟩);go_ret2;exact⟨_,false,rfl,HB.out,.inl ⟨he.out,rfl⟩⟩
  ·have he:Hid (Pl.toks s.data.toList=some pre):=HF.out.end_ (by simp;omega);go_wp2;go_ret2;exact⟨_,true,rfl,HB.out,.inr ⟨pre,he.out,rfl,HO.out⟩⟩
end
section
namespace Pl
def big:Nat:=1099511627776
def minus(w:List UInt8):Bool:=decide (1<w.length)&&(w.headD 0==45)
def digs(w:List UInt8):List UInt8:=if minus w then w.drop 1 else w
def isNum(w:List UInt8):Bool:=(digs w).all isDig
def noDig(w:List UInt8):Bool:=w.all (fun c=>!isDig c)
def natV(ds:List UInt8):Nat:=ds.foldl (fun a c=>10*a+(c.toNat-48)) 0
def sval(w:List UInt8):Int:=if minus w then -(natV (digs w):Int) else(natV (digs w):Int)
def great(w:List UInt8):Bool:=decide (big<natV (digs w))
def stepN(a:Nat×Bool)(c:UInt8):Nat×Bool:=if big<10*a.1+(c.toNat-48) then(0,true) else(10*a.1+(c.toNat-48),a.2)
def foldN(ds:List UInt8):Nat×Bool:=ds.foldl stepN (0,false)
theorem vR(ds:List UInt8)(c:UInt8):natV (ds++[c])=10*natV ds+(c.toNat-48):=by simp [natV]
theorem foldN_snoc(ds:List UInt8)(c:UInt8):foldN (ds++[c])=stepN (foldN ds) c:=by simp [foldN]
theorem foldN_le(ds:List UInt8):(foldN ds).1<=big:=by
 have key:∀(r:List UInt8)(a:Nat×Bool),a.1<=big->(r.foldl stepN a).1<=big:=by
  intro r
  induction r with
  | nil=>intro a h;exact h
  | cons c r ih =>
   intro a h;refine ih _ ?_;unfold stepN;split
   ·simp
   ·simp only;omega
 exact key ds (0,false) (by simp)
theorem jS:∀(n:Nat)(ds:List UInt8),ds.length=n->(natV ds<=big->foldN ds=(natV ds,false))/\(big<natV ds->(foldN ds).2=true)
 | 0,ds,h=>by obtain rfl:=List.eq_nil_of_length_eq_zero h;exact⟨fun _=>rfl,fun h=>by simp [natV] at h⟩
 | n+1,ds,h=>by
  have hne:ds≠[]:=fun e=>by simp [e] at h
  obtain⟨r,c,rfl⟩:∃r c,ds=r++[c]:=⟨ds.dropLast,ds.getLast hne,(List.dropLast_concat_getLast hne).symm⟩
  have ih:=jS n r (by simpa using h);rw [vR,foldN_snoc];by_cases hb:natV r<=big
  ·rw [ih.1 hb];unfold stepN;constructor
   ·intro h1;simp only;rw [if_neg (by omega)]
   ·intro h1;simp only;rw [if_pos (by omega)]
  ·have h2:=ih.2 (by omega);constructor
   ·intro h1;omega
   ·intro _;unfold stepN;split
    ·rfl
    ·exact h2
theorem foldN_great(ds:List UInt8):(foldN ds).2=decide (big<natV ds):=by
 have h:=jS _ ds rfl;by_cases hb:natV ds<=big
 ·rw [h.1 hb];simp;omega
 ·rw [h.2 (by omega)];simp;omega
theorem foldN_val(ds:List UInt8)(h:natV ds<=big):(foldN ds).1=natV ds:=by rw [(jS _ ds rfl).1 h]
theorem take_snoc(l:List UInt8)(k:Nat)(h:k<l.length):l.take (k+1)=l.take k++[l[k]]:=List.take_succ_eq_append_getElem h
theorem all_of{p:UInt8->Bool}(l:List UInt8)(h:∀j (h:j<l.length),p l[j]=true):l.all p=true:=by rw [List.all_eq_true];intro x hx;obtain⟨j,hj,rfl⟩:=List.getElem_of_mem hx;exact h j hj
theorem not_all{p:UInt8->Bool}(l:List UInt8)(j:Nat)(hj:j<l.length)(h:p l[j]=false):l.all p=false:=by rw [List.all_eq_false];exact⟨l[j],List.getElem_mem _,by simp [h]⟩
theorem isDig_le(c:UInt8)(h:isDig c=true):48<=c.toNat/\c.toNat<=57:=by simpa [isDig] using h
theorem all_get{p:UInt8->Bool}(l:List UInt8)(h:l.all p=true)(j:Nat)(hj:j<l.length):p l[j]=true:=List.all_eq_true.1 h _ (List.getElem_mem _)
theorem head_get(l:List UInt8)(h:0<l.length):l.headD 0=l[0]:=by cases l<;>simp at h ⊢
end Pl
end
section
open Go.RowKit
def NumPost(s:ByteArray)(e:Ending):Prop :=
 (Pl.isNum s.data.toList=true/\∃d:ByteArray,d.data.toList=Pl.digs s.data.toList/\d.size<=s.size/\e=.returned (.tuple #[.string d,.bool (Pl.minus s.data.toList),.bool true])) \/
 (Pl.isNum s.data.toList=false/\∃d:ByteArray,∃b,e=.returned (.tuple #[.string d,.bool b,.bool false]))
theorem vT(s:ByteArray)(h1:1<s.size)(h:(((s[0]'(by omega)).toNat:Int)==45)=true):Pl.minus s.data.toList=true:=by
 have h0:0<s.data.toList.length:=by simp;omega
 rw [b45] at h;simp only [Pl.minus,Pl.head_get _ h0,Bool.and_eq_true,decide_eq_true_eq];refine⟨by simpa using h1,?_⟩;rw [bE s 0 (by omega)];exact h
theorem zS(s:ByteArray)(h1:1<s.size)(h:(((s[0]'(by omega)).toNat:Int)==45)=false):Pl.minus s.data.toList=false:=by
 have h0:0<s.data.toList.length:=by simp;omega
 rw [b45] at h;simp only [Pl.minus,Pl.head_get _ h0,Bool.and_eq_false_iff,decide_eq_false_iff_not];right;rw [bE s 0 (by omega)];exact h
theorem pC(s:ByteArray)(h1:¬1<s.size):Pl.minus s.data.toList=false:=by simp only [Pl.minus,Bool.and_eq_false_iff,decide_eq_false_iff_not];left;simpa using h1
theorem eP(s:ByteArray)(i k:Nat):(s.extract i k).data.toList=(s.data.toList.drop i).take (k-i):=by rw [ByteArray.data_extract];simp [Array.toList_extract,List.extract_eq_take_drop]
theorem rX(s:ByteArray)(w:World)(hs:s.size<=1000) :Calls prog 120 #[.string s] w fun e w'=>NumPost s e/\w=w':=by
 by_cases h1:1<s.size
 ·by_cases hm:(((s[0]'(by omega)).toNat:Int)==45)=true
  ·have HM:Hid (Pl.minus s.data.toList=true):=vT s h1 hm;go_enter func120,ntmps120;go_wp2;obtain⟨d,hd⟩:∃d,d=s.extract 1 s.size:=⟨_,rfl⟩
   have HD:Hid (d.data.toList=Pl.digs s.data.toList):=by show d.data.toList=_;rw [hd,eP,Pl.digs,HM.out,List.take_of_length_le (by simp)];simp
   have hdz:d.size+1=s.size:=by rw [hd];simp;omega
   rw [<- hd];clear hd
   go_loopw [7] (fun i wq=>∃k:Nat,k<=d.size/\i=.int .i64 k/\w=wq/\Hid (∀j (h:j<d.data.toList.length),j<k->isDig d.data.toList[j]=true)) (fun i _=>d.size-(intOf i).toNat)
   case atStart=>exact⟨0,Nat.zero_le _,rfl,rfl,fun j _ hj=>by omega⟩
   case round =>
    obtain⟨k,hk,rfl,rfl,HA⟩:=hrel;by_cases hlt:k<d.size
    ·have hg:=bE d k hlt;by_cases hdg:isDig (d[k]'hlt)=true
     ·have HA2:Hid (∀j (h:j<d.data.toList.length),j<k+1->isDig d.data.toList[j]=true):=by
       intro j h hj;by_cases e:j=k
       ·subst e;rw [hg];exact hdg
       ·exact HA.out j h (by omega)
      clear hg HA;go_wp2_with (go_at_call 119;refine(bI (d[k]'hlt) _).mono ?_;rintro e w' ⟨rfl,rfl⟩);exact⟨⟨k+1,by omega,by go_num,trivial,HA2⟩,by simp [intOf];omega⟩
     ·have hdg0:isDig (d[k]'hlt)=false:=by simpa using hdg
      have HN:Hid (Pl.isNum s.data.toList=false):=by show Pl.isNum _=_;unfold Pl.isNum;rw [<- HD.out];exact Pl.not_all _ k (by simpa using hlt) (by rw [hg];exact hdg0)
      clear hg HA hdg;go_wp2_with (go_at_call 119;refine(bI (d[k]'hlt) _).mono ?_;rintro e w' ⟨rfl,rfl⟩)
      go_ret3
      exact⟨.inr ⟨HN.out,_,_,rfl⟩,rfl⟩
    ·have HN:Hid (Pl.isNum s.data.toList=true):=by
      show Pl.isNum _=_;unfold Pl.isNum;rw [<- HD.out];exact Pl.all_of _ fun j h=>HA.out j h (by simp at h;omega)
     go_wp2
     go_ret3
     exact⟨.inl ⟨HN.out,d,HD.out,by omega,by rw [HM.out];rfl⟩,rfl⟩
  ·have hm0:(((s[0]'(by omega)).toNat:Int)==45)=false:=by simpa using hm
   have HM:Hid (Pl.minus s.data.toList=false):=zS s h1 hm0;obtain⟨d,hd⟩:∃d,d=s:=⟨_,rfl⟩
   subst hd;have HD:Hid (d.data.toList=Pl.digs d.data.toList):=by show d.data.toList=_;rw [Pl.digs,HM.out];rfl
   clear hm;go_enter func120,ntmps120;go_wp2
   go_loopw [7] (fun i wq=>∃k:Nat,k<=d.size/\i=.int .i64 k/\w=wq/\Hid (∀j (h:j<d.data.toList.length),j<k->isDig d.data.toList[j]=true)) (fun i _=>d.size-(intOf i).toNat)
   case atStart=>exact⟨0,Nat.zero_le _,rfl,rfl,fun j _ hj=>by omega⟩
   case round =>
    obtain⟨k,hk,rfl,rfl,HA⟩:=hrel;by_cases hlt:k<d.size
    ·have hg:=bE d k hlt;by_cases hdg:isDig (d[k]'hlt)=true
     ·have HA2:Hid (∀j (h:j<d.data.toList.length),j<k+1->isDig d.data.toList[j]=true):=by
       intro j h hj;by_cases e:j=k
       ·subst e;rw [hg];exact hdg
       ·exact HA.out j h (by omega)
      clear hg HA;go_wp2_with (go_at_call 119;refine(bI (d[k]'hlt) _).mono ?_;rintro e w' ⟨rfl,rfl⟩);exact⟨⟨k+1,by omega,by go_num,trivial,HA2⟩,by simp [intOf];omega⟩
     ·have hdg0:isDig (d[k]'hlt)=false:=by simpa using hdg
      have HN:Hid (Pl.isNum d.data.toList=false):=by show Pl.isNum _=_;unfold Pl.isNum;rw [<- HD.out];exact Pl.not_all _ k (by simpa using hlt) (by rw [hg];exact hdg0)
      clear hg HA hdg;go_wp2_with (go_at_call 119;refine(bI (d[k]'hlt) _).mono ?_;rintro e w' ⟨rfl,rfl⟩)
      go_ret3
      exact⟨.inr ⟨HN.out,_,_,rfl⟩,rfl⟩
    ·have HN:Hid (Pl.isNum d.data.toList=true):=by
      show Pl.isNum _=_;unfold Pl.isNum;rw [<- HD.out];exact Pl.all_of _ fun j h=>HA.out j h (by simp at h;omega)
     go_wp2
     go_ret3
     exact⟨.inl ⟨HN.out,d,HD.out,by omega,by rw [HM.out];rfl⟩,rfl⟩
 ·have HM:Hid (Pl.minus s.data.toList=false):=pC s h1;obtain⟨d,hd⟩:∃d,d=s:=⟨_,rfl⟩
  subst hd;have HD:Hid (d.data.toList=Pl.digs d.data.toList):=by show d.data.toList=_;rw [Pl.digs,HM.out];rfl
  go_enter func120,ntmps120
  go_wp2
  go_loopw [7] (fun i wq=>∃k:Nat,k<=d.size/\i=.int .i64 k/\w=wq/\Hid (∀j (h:j<d.data.toList.length),j<k->isDig d.data.toList[j]=true)) (fun i _=>d.size-(intOf i).toNat)
  case atStart=>exact⟨0,Nat.zero_le _,rfl,rfl,fun j _ hj=>by omega⟩
  case round =>
   obtain⟨k,hk,rfl,rfl,HA⟩:=hrel;by_cases hlt:k<d.size
   ·have hg:=bE d k hlt;by_cases hdg:isDig (d[k]'hlt)=true
    ·have HA2:Hid (∀j (h:j<d.data.toList.length),j<k+1->isDig d.data.toList[j]=true):=by
      intro j h hj;by_cases e:j=k
      ·subst e;rw [hg];exact hdg
      ·exact HA.out j h (by omega)
     clear hg HA;go_wp2_with (go_at_call 119;refine(bI (d[k]'hlt) _).mono ?_;rintro e w' ⟨rfl,rfl⟩);exact⟨⟨k+1,by omega,by go_num,trivial,HA2⟩,by simp [intOf];omega⟩
    ·have hdg0:isDig (d[k]'hlt)=false:=by simpa using hdg
     have HN:Hid (Pl.isNum d.data.toList=false):=by show Pl.isNum _=_;unfold Pl.isNum;rw [<- HD.out];exact Pl.not_all _ k (by simpa using hlt) (by rw [hg];exact hdg0)
     clear hg HA hdg;go_wp2_with (go_at_call 119;refine(bI (d[k]'hlt) _).mono ?_;rintro e w' ⟨rfl,rfl⟩)
     go_ret3
     exact⟨.inr ⟨HN.out,_,_,rfl⟩,rfl⟩
   ·have HN:Hid (Pl.isNum d.data.toList=true):=by
     show Pl.isNum _=_;unfold Pl.isNum;rw [<- HD.out];exact Pl.all_of _ fun j h=>HA.out j h (by simp at h;omega)
    go_wp2
    go_ret3
    exact⟨.inl ⟨HN.out,d,HD.out,by omega,by rw [HM.out];rfl⟩,rfl⟩
end
end Go.Proofs.YtkgbdddkcjpgfaaGreatDoor
