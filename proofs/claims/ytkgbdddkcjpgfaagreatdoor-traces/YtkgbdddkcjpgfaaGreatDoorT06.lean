import Derived.Test.YtkgbdddkcjpgfaaGreatDoorT05
namespace Go.Proofs.YtkgbdddkcjpgfaaGreatDoor
set_option maxHeartbeats 1000000
set_option maxRecDepth 100000
open Go.Proofs.Tryz
open Pl (PV PW PF CW AE Env FK AO EE isName)
section
open Go.RowKit
variable {w w':World} {v:Value} {M M':Nat->Prop} {n:Nat}
theorem Tryz.TZ:(prog.info? 135).map (fun i=>(i.zero,i.size,i.bytes))=some (some (.pointer none),1,8):=by kernel_rfl
theorem kH(n:Nat)(ih:NF n)(w:World)(b:Nat)(L:Value)(a:List (List UInt8))(r:List (List UInt8))(O C:Nat)(g:Bool)(hR:Rd w b L ((a.length-([40]::r).length:Nat):Int) (O:Int) g)(hT:DR w L a)(h:[40]::r <:+ a)(ah:([40]::r).length<=n+1)(T:a.length<=1000)(U:C+([40]::r).length<=2000)(be:C<=O)(z:∀t∈a,t.length<=1000) :Calls prog 72 #[.pointer (some ⟨b,0,none⟩),.int .i64 C] w fun e w'=>IK (n+1) w b L a O C g ([40]::r) e w':=by
 obtain⟨i0,ai,aj,ak,al⟩:=info_parts Tryz.TZ;have V:=z;have HI:=h_ ih;clear ih;obtain⟨t,ht⟩:∃t:List UInt8,t=[40]:=⟨_,rfl⟩
 rw [<- ht] at hR h;obtain⟨ao,P,rfl,bd,D⟩:=dM hT;obtain⟨hi,hg⟩:=Pl.E9 h rfl;obtain⟨G,rfl,hc⟩:=D _ t (by rw [g_ hi,hg]);obtain⟨c0,c1,c2,c3⟩:=hR.cells;have f1:=aF hR 1;have f2:=aF hR 2;generalize c:a.length-(t::r).length=am at *;have HP:Hid (am+1=a.length-r.length):=by have:=iS h;rw [<- c];exact this
 have W:=h_ hR;have an:t.length<=1000:=z t (h.subset (by simp));have HT:=h_ hT;clear c hg hT D hR z;subst ht;have z:=V;clear V an;have ap:r.length<=1000:=by have:=h.length_le;simp at this;omega
 have bf:decide (a.length<=am)=false:=by simp;omega
 by_cases hd:O<C+1
 ·have bg:decide ((O:Int)<(C:Int)+1)=true:=by simp;omega
  go_enter func72,ntmps72
  go_wp2_with fail
  go_quiet (fail)
  go_wp2_with fail
  go_quiet (fail)
  go_wp2_with fail
  go_loopw [8] (fun _ wr=>∃q i Q X l R,Hid (G6 n w wr b w.heap.size (.slice (some ⟨G,0,none⟩) a.length P) a r O C g q i Q X l R)) (fun _ wr=>mOf a b wr)
  case atStart=>exact⟨_,_,_,_,_,_,G6.start ((List.suffix_cons _ _).trans h) ((((W.drewN _).KE _).WU _).cast (by have:=HP.out;omega) (by omega) rfl) (HT.keep (aC (cK w _ (some b)) (aC (aE _ _ _ _) (aE _ _ _ _))) W) (aC (cK w _ (some b)) (aC (aE _ _ _ _) (aE _ _ _ _))) (aB W) _ rfl _ (by simp)⟩
  case round =>
   obtain⟨q,i,Q,X,l,R,f⟩:=hrel;clear c0 c1 c2 c3 f1 f2 hc W HT hi HP;obtain⟨c0,c1,c2,c3⟩:=f.rd.cells;have f1:=aF f.rd 1;have Y:=aA f.out.out 3;have Z:=f.LQ.length_le;generalize c:a.length-q.length=E at *
   cases q with
   | nil =>
    have aa:E=a.length:=by simp at c;omega
    subst aa;have aw:decide ((a.length:Int)<(a.length:Int))=false:=by simp
    have j:Hid (Pl.pd (n+1) ([40]::r)=none):=by show Pl.pd _ _=_;rw [Pl.GH n _ r rfl,f.lf.none_];rfl
    clear c;go_wp2_with fail
    go_quiet (fail)
    go_wp2_with fail
    go_quiet (fail)
    go_wp2_with fail
    go_ret;refine⟨bK (bK f.grown _) _,?_⟩;rw [j.out];rfl
   | cons t F =>
    have H:=iS f.LQ;have ab:E<a.length:=by simp at c Z;omega
    have I:a[E]?=some t:=by obtain⟨ac,ad⟩:=Pl.E9 f.LQ rfl;rw [<- c,g_ ac,ad]
    have ae:=mM f.BX I;have aq:(E:Int)<(a.length:Int):=by omega
    have af:Hid (E+1=a.length-F.length):=by rw [<- c];exact H
    clear I H ab;by_cases k:t=[41]
    ·subst k;have j:Hid (Pl.pd (n+1) ([40]::r)=some ⟨.agg Q,F,l+1,R⟩):=by show Pl.pd _ _=_;rw [Pl.GH n _ r rfl,f.lf.close];rfl
     clear c;go_wp2_with fail
     go_quiet (fail)
     go_wp2_with fail
     go_quiet (fail)
     go_wp2_with fail
     go_ret;refine dI j (aC (bK f.grown _) (aE _ _ _ _)) ((f.drewN _).done ap _) ((f.rd.drewN _).KE _) ?_ ?_ ?_
     ·have:=af.out;dsimp only;omega
     ·dsimp only;omega
     ·rfl
    ·have ax:(t==[41])=false:=by simpa using k
     have ay:(t !=[41])=true:=by simpa using k
     have J:=f.len;simp only [c_] at J ah U;go_wp2_with fail
     go_quiet (fail)
     go_wp2_with fail
     refine(HI _ b (.slice (some ⟨G,0,none⟩) a.length P) a (t::F) (max O (C+1+l)) (C+1) (g||R) ((f.rd.drewN _).cast (by simp only [c_]) rfl rfl) ((f.drewN _).BX) f.LQ (by simp;omega) T (by simp;omega) (by omega) z _ (by omega)).mono ?_;rintro e S ⟨m,d⟩;clear c0 c1 c2 c3 f1 Y ae
     cases A:Pl.pd n (t::F) with
     | none =>
      rw [A] at d;dsimp only at d;subst d;have j:Hid (Pl.pd (n+1) ([40]::r)=none):=by show Pl.pd _ _=_;rw [Pl.GH n _ r rfl,f.lf.fail k A];rfl
      have HG:Hid (w.grownBy S (some b)):=aC (bK f.grown _) m;clear A m c;go_wp2_with fail;go_ret;refine⟨HG,?_⟩;rw [j.out];rfl
     | some p =>
      rw [A] at d;obtain⟨v,rfl,s,u⟩:=d;have B:=(show Hid _ from(f.drewN _).call k A m s u)
      obtain⟨vb,rfl⟩:=s.ptr;have ag:mOf a b wr=(t::F).length:=f.m;clear A m u c f;have az:=aA B.out.out 3;have ba:=aF B.out.out 3;have ar:w.heap.size<S.heap.size:=aB B.out.out;have au:=B.q_lt;go_wp2_with (first | (at_builtin;refine wpList_append_lies _ rfl _ _ 237 rfl (w.heap.size+1) 135 i0 (.pointer none) 1 8 underlying237 ai aj ak al rfl (by decide) i Q.length X rfl (B.row.alloc _) ⟨S.heap.size,0,none⟩ 1 1 [.pointer (some ⟨vb,0,none⟩)] rfl rfl (cell_one_new _ _ _) (fun x hx=>by simp at hx;subst hx;rfl) (by decide) (by unfold maxLen;omega) (by omega) (by simp;omega) (S.heap.size+1) (by simp) ?_;intro g' av w3 y o K _;obtain⟨bb,bc,M⟩:=B.push y o K;have N:=(show Hid _ from M);clear M))
      go_roundw
      case rel=>exact⟨_,_,_,_,_,_,N⟩
      case measure=>rw [N.m,ag];simp;omega
 ·go_enter func72,ntmps72
  go_wp2_with fail
  go_quiet (fail)
  go_wp2_with fail
  go_quiet (fail)
  go_wp2_with fail
  go_loopw [8] (fun _ wr=>∃q i Q X l R,Hid (G6 n w wr b w.heap.size (.slice (some ⟨G,0,none⟩) a.length P) a r O C g q i Q X l R)) (fun _ wr=>mOf a b wr)
  case atStart=>exact⟨_,_,_,_,_,_,G6.start ((List.suffix_cons _ _).trans h) (((W.drewN _).KE _).cast (by have:=HP.out;omega) (by omega) rfl) (HT.keep (aC (cK w _ (some b)) (aE _ _ _ _)) W) (aC (cK w _ (some b)) (aE _ _ _ _)) (aB W) _ rfl _ (by simp)⟩
  case round =>
   obtain⟨q,i,Q,X,l,R,f⟩:=hrel;clear c0 c1 c2 c3 f1 f2 hc W HT hi HP;obtain⟨c0,c1,c2,c3⟩:=f.rd.cells;have f1:=aF f.rd 1;have Y:=aA f.out.out 3;have Z:=f.LQ.length_le;generalize c:a.length-q.length=E at *
   cases q with
   | nil =>
    have aa:E=a.length:=by simp at c;omega
    subst aa;have aw:decide ((a.length:Int)<(a.length:Int))=false:=by simp
    have j:Hid (Pl.pd (n+1) ([40]::r)=none):=by show Pl.pd _ _=_;rw [Pl.GH n _ r rfl,f.lf.none_];rfl
    clear c;go_wp2_with fail
    go_quiet (fail)
    go_wp2_with fail
    go_quiet (fail)
    go_wp2_with fail
    go_ret;refine⟨bK (bK f.grown _) _,?_⟩;rw [j.out];rfl
   | cons t F =>
    have H:=iS f.LQ;have ab:E<a.length:=by simp at c Z;omega
    have I:a[E]?=some t:=by obtain⟨ac,ad⟩:=Pl.E9 f.LQ rfl;rw [<- c,g_ ac,ad]
    have ae:=mM f.BX I;have aq:(E:Int)<(a.length:Int):=by omega
    have af:Hid (E+1=a.length-F.length):=by rw [<- c];exact H
    clear I H ab;by_cases k:t=[41]
    ·subst k;have j:Hid (Pl.pd (n+1) ([40]::r)=some ⟨.agg Q,F,l+1,R⟩):=by show Pl.pd _ _=_;rw [Pl.GH n _ r rfl,f.lf.close];rfl
     clear c;go_wp2_with fail
     go_quiet (fail)
     go_wp2_with fail
     go_quiet (fail)
     go_wp2_with fail
     go_ret;refine dI j (aC (bK f.grown _) (aE _ _ _ _)) ((f.drewN _).done ap _) ((f.rd.drewN _).KE _) ?_ ?_ ?_
     ·have:=af.out;dsimp only;omega
     ·dsimp only;omega
     ·rfl
    ·have ax:(t==[41])=false:=by simpa using k
     have ay:(t !=[41])=true:=by simpa using k
     have J:=f.len;simp only [c_] at J ah U;go_wp2_with fail
     go_quiet (fail)
     go_wp2_with fail
     refine(HI _ b (.slice (some ⟨G,0,none⟩) a.length P) a (t::F) (max O (C+1+l)) (C+1) (g||R) ((f.rd.drewN _).cast (by simp only [c_]) rfl rfl) ((f.drewN _).BX) f.LQ (by simp;omega) T (by simp;omega) (by omega) z _ (by omega)).mono ?_;rintro e S ⟨m,d⟩;clear c0 c1 c2 c3 f1 Y ae
     cases A:Pl.pd n (t::F) with
     | none =>
      rw [A] at d;dsimp only at d;subst d;have j:Hid (Pl.pd (n+1) ([40]::r)=none):=by show Pl.pd _ _=_;rw [Pl.GH n _ r rfl,f.lf.fail k A];rfl
      have HG:Hid (w.grownBy S (some b)):=aC (bK f.grown _) m;clear A m c;go_wp2_with fail;go_ret;refine⟨HG,?_⟩;rw [j.out];rfl
     | some p =>
      rw [A] at d;obtain⟨v,rfl,s,u⟩:=d;have B:=(show Hid _ from(f.drewN _).call k A m s u)
      obtain⟨vb,rfl⟩:=s.ptr;have ag:mOf a b wr=(t::F).length:=f.m;clear A m u c f;have az:=aA B.out.out 3;have ba:=aF B.out.out 3;have ar:w.heap.size<S.heap.size:=aB B.out.out;have au:=B.q_lt;go_wp2_with (first | (at_builtin;refine wpList_append_lies _ rfl _ _ 237 rfl (w.heap.size+1) 135 i0 (.pointer none) 1 8 underlying237 ai aj ak al rfl (by decide) i Q.length X rfl (B.row.alloc _) ⟨S.heap.size,0,none⟩ 1 1 [.pointer (some ⟨vb,0,none⟩)] rfl rfl (cell_one_new _ _ _) (fun x hx=>by simp at hx;subst hx;rfl) (by decide) (by unfold maxLen;omega) (by omega) (by simp;omega) (S.heap.size+1) (by simp) ?_;intro g' av w3 y o K _;obtain⟨bb,bc,M⟩:=B.push y o K;have N:=(show Hid _ from M);clear M))
      go_roundw
      case rel=>exact⟨_,_,_,_,_,_,N⟩
      case measure=>rw [N.m,ag];simp;omega
theorem jA:∀n:Nat,NF n
 | 0=>by intro w b L d l i j g k m a q c e f h x s;obtain rfl:=e_ (Nat.le_zero.1 q);subst s;exact fV 0 w b L d i j g k m
 | n+1=>by
  intro w b L d l i j g k m a q c e f h x s;subst s
  cases l with
  | nil=>exact fV (n+1) w b L d i j g k m
  | cons t r =>
   by_cases o:t=[40]
   ·subst o;exact kH n (jA n) w b L d r i j g k m a q c e f h
   by_cases p:t=[39]
   ·subst p;exact i8 n (jA n) w b L d r i j g k m a q c e f h
   ·exact kI n w b L d t r i j g k m a c h f o p
theorem jP(k:Nat)(a:k<7)(t l:List UInt8)(b:Pl.RZ[k]'a=l)(h:(l==t)=true):true=EE t:=by
 have:l=t:=by simpa using h
 subst this;exact((Pl.IH _).2 (b▸List.getElem_mem _)).symm
theorem GL(k:Nat)(a:k<7)(t l:List UInt8)(b:Pl.RZ[k]'a=l)(c:t∉Pl.RZ.take k)(h:(l==t)=false):t∉Pl.RZ.take (k+1) :=Pl.MB Pl.RZ t k a c (by rw [b];simpa using h)
theorem aR(t:List UInt8)(w:World) :Calls prog 162 #[.string ⟨t.toArray⟩] w fun e b=>e=.returned (.bool (EE t))/\Below w.heap.size w b:=by
 go_enter func162,ntmps162
 go_wp2_with fail
 go_loopw [4] (fun i wr=>∃k:Nat,k<=7/\i=.int .i64 k/\wr=w.alloc (.cells #[.string ⟨#[113,117,111,116,101]⟩,.string ⟨#[105,102]⟩,.string ⟨#[108,97,109,98,100,97]⟩,.string ⟨#[115,101,116,33]⟩,.string ⟨#[100,101,102,105,110,101]⟩,.string ⟨#[98,101,103,105,110]⟩,.string ⟨#[108,101,116]⟩] 9)/\Hid (t∉Pl.RZ.take k)) (fun i _=>7-(intOf i).toNat)
 case atStart=>exact⟨0,Nat.zero_le _,rfl,rfl,by simp [Hid]⟩
 case round =>
  obtain⟨k,c,rfl,rfl,a⟩:=hrel;rcases(show k=0\/k=1\/k=2\/k=3\/k=4\/k=5\/k=6\/k=7 from by omega) with rfl | rfl | rfl | rfl | rfl | rfl | rfl | rfl
  ·go_wp2_with fail
   ·go_ret;exact⟨aP (jP 0 (by decide) t _ rfl (by assumption)),b_⟩
   ·exact⟨⟨0+1,by omega,by go_num,trivial,GL 0 (by decide) t _ rfl a (by assumption)⟩,by simp [intOf]⟩
  ·go_wp2_with fail
   ·go_ret;exact⟨aP (jP 1 (by decide) t _ rfl (by assumption)),b_⟩
   ·exact⟨⟨1+1,by omega,by go_num,trivial,GL 1 (by decide) t _ rfl a (by assumption)⟩,by simp [intOf]⟩
  ·go_wp2_with fail
   ·go_ret;exact⟨aP (jP 2 (by decide) t _ rfl (by assumption)),b_⟩
   ·exact⟨⟨2+1,by omega,by go_num,trivial,GL 2 (by decide) t _ rfl a (by assumption)⟩,by simp [intOf]⟩
  ·go_wp2_with fail
   ·go_ret;exact⟨aP (jP 3 (by decide) t _ rfl (by assumption)),b_⟩
   ·exact⟨⟨3+1,by omega,by go_num,trivial,GL 3 (by decide) t _ rfl a (by assumption)⟩,by simp [intOf]⟩
  ·go_wp2_with fail
   ·go_ret;exact⟨aP (jP 4 (by decide) t _ rfl (by assumption)),b_⟩
   ·exact⟨⟨4+1,by omega,by go_num,trivial,GL 4 (by decide) t _ rfl a (by assumption)⟩,by simp [intOf]⟩
  ·go_wp2_with fail
   ·go_ret;exact⟨aP (jP 5 (by decide) t _ rfl (by assumption)),b_⟩
   ·exact⟨⟨5+1,by omega,by go_num,trivial,GL 5 (by decide) t _ rfl a (by assumption)⟩,by simp [intOf]⟩
  ·go_wp2_with fail
   ·go_ret;exact⟨aP (jP 6 (by decide) t _ rfl (by assumption)),b_⟩
   ·exact⟨⟨6+1,by omega,by go_num,trivial,GL 6 (by decide) t _ rfl a (by assumption)⟩,by simp [intOf]⟩
  ·go_wp2_with fail
   go_ret;exact⟨aP (by have:=a.out;simp only [EE];symm;rw [decide_eq_false_iff_not];exact this),b_⟩
def gF:Tr->Value
 | .lit (.int _ _)=>PU
 | .lit (.bool _)=>PQ
 | .lit (.string _)=>ZJ
 | _=>s6
theorem AJ.open_{ok:Nat->Prop}{t:Tr}(h:AJ ok n w v t) :∃(b:Nat)(N:Int)(a:Value),v=.pointer (some ⟨b,0,none⟩)/\w.heap[b]?=some (.cells #[gF t,.int .i64 N,eB (Pl.strOf t),a] TD (0,0)):=by
 cases n with
 | zero=>exact h.elim
 | succ n =>
  obtain⟨b,c,_,h⟩:=h
  match t,h with
  | .lit (.int _ m),⟨k,d,_⟩=>exact⟨b,k,_,c,d⟩
  | .lit (.bool x),h=>exact⟨b,_,_,c,h⟩
  | .lit (.string s),h=>exact⟨b,_,_,c,h⟩
  | .agg e,⟨a,f,d,_⟩=>exact⟨b,_,a,c,d⟩
theorem pK(t:Tr){ok:Nat->Prop}(h:AJ ok n w v t):(gF t=ZJ/\isName t=!EE (Pl.strOf t))\/((gF t=PU\/gF t=PQ\/gF t=s6)/\isName t=false):=by
 cases n with
 | zero=>exact h.elim
 | succ n =>
  obtain⟨b,a,_,h⟩:=h
  match t,h with
  | .lit (.int _ m),h=>exact .inr ⟨.inl rfl,rfl⟩
  | .lit (.bool x),h=>exact .inr ⟨.inr (.inl rfl),rfl⟩
  | .lit (.string s),h=>exact .inl ⟨rfl,rfl⟩
  | .agg c,h=>exact .inr ⟨.inr (.inr rfl),rfl⟩
theorem aV(ok:Nat->Prop)(n:Nat)(w:World)(v:Value)(t:Tr)(h:AJ ok n w v t) :Calls prog 161 #[v] w fun e i=>e=.returned (.bool (isName t))/\Below w.heap.size w i:=by
 have o:=pK t h;obtain⟨b,N,d,rfl,j⟩:=h.open_;clear h;have p:w.cell? ⟨b,2,none⟩=some (.string ⟨(Pl.strOf t).toArray⟩):=aA j 2;go_enter func161,ntmps161;go_wp2_with fail;refine(aR (Pl.strOf t) _).mono ?_;rintro e i ⟨rfl,m⟩;have f:i.heap[b]?=some (.cells #[gF t,.int .i64 N,eB (Pl.strOf t),d] TD (0,0)):=(m.block b (aB j)).trans j;have k:=h_ m;have g:i.cell? ⟨b,0,none⟩=some (gF t):=aA f 0;clear m f j p;rcases o with⟨a,c⟩ | ⟨a | a | a,c⟩<;>(rw [a] at g;have l:=(show Hid (isName t=_) from c))
 ·unfold ZJ at g;clear a c;go_wp2_with fail;go_ret;exact⟨aP (by rw [l.out]),k⟩
 ·unfold PU at g;clear a c;go_wp2_with fail;go_ret;exact⟨aP (by rw [l.out]),k⟩
 ·unfold PQ at g;clear a c;go_wp2_with fail;go_ret;exact⟨aP (by rw [l.out]),k⟩
 ·unfold s6 at g;clear a c;go_wp2_with fail;go_ret;exact⟨aP (by rw [l.out]),k⟩
def TV:TypeId:=154
def TB:TypeId:=249
def VR:TypeId:=263
def VQ:TypeId:=186
def RX:TypeId:=172
def TFr:TypeId:=176
def G3:TypeId:=182
def LN:TypeId:=69
def JL:TypeId:=174
def MG:TypeId:=96
def TS:TypeId:=9
theorem Tryz.TU:(prog.info? 154).map (fun i=>(i.zero,i.size,i.bytes))=some (some (.agg #[.string ⟨#[]⟩,.int .i64 0,.string ⟨#[]⟩]),3,40):=by kernel_rfl
theorem Tryz.G_:(prog.info? 249).map (fun i=>(i.zero,i.size,i.bytes))=some (some (.agg #[.string ⟨#[]⟩,.int .i64 0]),2,24):=by kernel_rfl
theorem Tryz.TW:(prog.info? 263).map (fun i=>(i.zero,i.size,i.bytes))=some (some (.agg #[.string ⟨#[]⟩,.int .i64 0,.string ⟨#[]⟩,.string ⟨#[]⟩,.int .i64 0,.string ⟨#[]⟩]),6,80):=by kernel_rfl
theorem Tryz.infoPc:(prog.info? 186).map (fun i=>(i.zero,i.size,i.bytes))=some (some (.agg #[.pointer none,.slice none 0 0]),2,32):=by kernel_rfl
theorem Tryz.YN:(prog.info? 172).map (fun i=>(i.zero,i.size,i.bytes))=some (some (.pointer none),1,8):=by kernel_rfl
def AM(s:AE):Value:=.string ⟨s.toArray⟩
def pI:AE:=[112,97,105,114]
def s5:AE:=[112,114,111,99,101,100,117,114,101]
def pJ:AE:=[99,111,110,116,105,110,117,97,116,105,111,110]
def pH:AE:=[112,114,105,109,105,116,105,118,101]
def kEmp:AE:=[101,109,112,116,121]
def kNot:AE:=[110,111,116,104,105,110,103]
def kNu:AE:=[110,117,109,98,101,114]
def F_:AE:=[116,114,117,116,104]
def kNa:AE:=[110,97,109,101]
def vK:PV->AE
 | .num _=>kNu
 | .AT _=>F_
 | .name _=>kNa
 | .empty=>kEmp
 | .nothing=>kNot
 | .pair _=>pI
 | .proc _=>s5
 | .cont _=>pJ
 | .AZ _=>pH
def vN:PV->Int
 | .num n=>n
 | .AT b=>if b then 1 else 0
 | .pair n=>n
 | .proc n=>n
 | .cont n=>n
 | _=>0
def vS:PV->AE
 | .name s=>s
 | .AZ s=>s
 | _=>[]
def cZ(v:PV):List Value:=[AM (vK v),.int .i64 (vN v),AM (vS v)]
def bT(v:PV):Value:=.agg #[AM (vK v),.int .i64 (vN v),AM (vS v)]
def iM(b:AE×Nat):List Value:=[AM b.1,.int .i64 b.2]
def mG(p:PV×PV):List Value:=cZ p.1++cZ p.2
def Sl(M:Nat->Prop)(w:World)(T:TypeId)(sz:Nat)(v:Value)(n:Nat)(xs:List Value):Prop :=xs.length=n*sz/\∃ao cap,v=.slice ao n cap/\n<=cap/\(n=0\/∃g off cur,ao=some ⟨g,off,none⟩/\¬M g/\w.heap[g]?=some (.cells cur T (0,0))/\∀(i:Nat)(u:Value),xs[i]?=some u->cur[off+i]?=some u)
def DF(M:Nat->Prop)(w:World)(v:Value)(env:Env):Prop:=Sl M w TB 2 v env.length (env.flatMap iM)
def CO(M:Nat->Prop)(w:World)(v:Value)(l:List PV):Prop:=Sl M w TV 3 v l.length (l.flatMap cZ)
def FW:FK->AE
 | .const=>[99,111,110,115,116]
 | .name=>kNa
 | .iff=>Pl.VN
 | .set=>Pl.LR
 | .define=>Pl.CK
 | .lambda=>Pl.C3
 | .begin=>Pl.FX
 | .call=>[99,97,108,108]
def shape:FK->Nat->Prop
 | .const,n=>n=0
 | .name,n=>n=0
 | .iff,n=>n=3
 | .set,n=>n=1
 | .define,n=>n=1
 | .lambda,n=>n=1
 | .begin,n=>1<=n
 | .call,n=>1<=n
def G4:Nat->World->Value->PF->Prop
 | 0,_,_,_=>False
 | n+1,w,v,.mk k nm d pv ks ns=>∃b dv kv nv c0 c1 c2 us,v=.pointer (some ⟨b,0,none⟩) /\
   w.heap[b]?=some (.cells #[AM (FW k),AM nm,dv,kv,nv,c0,c1,c2] G3 (0,0)) /\
   w.ownsRow 0 LN 1 kv ks.length us/\(∀(i:Nat)(u:Value)(x:PF),us[i]?=some u->ks[i]?=some x->G4 n w u x) /\
   w.ownsRow 0 TS 1 nv ns.length (ns.map AM)/\(k=.const->[c0,c1,c2]=cZ pv/\∃m,AJ (fun _=>True) m w dv d)/\shape k ks.length/\ks.length<=1000/\ns.length<=1000
def RF(w:World)(v:Value)(f:PF):Prop:=∃n,G4 n w v f
def DT(M:Nat->Prop)(w:World):Value->List CW->Prop
 | v,[]=>v=.pointer none
 | v,f::r=>∃b fv gv ev up,v=.pointer (some ⟨b,0,none⟩)/\w.heap[b]?=some (.cells #[fv,gv,.int .i64 f.pos,ev,up,.int .i64 (r.length+1:Nat)] TFr (0,0)) /\
   RF w fv f.form/\CO M w gv f.B8/\DF M w ev f.env/\DT M w up r
def RH(e:TypeId):Prop:=e=TD\/e=TP\/e=G3\/e=LN\/e=TS\/e=TFr
def IX(w w':World):Prop:=∀(k:Nat)(cur:Array Value)(e:TypeId),RH e->w.heap[k]?=some (.cells cur e (0,0))->w'.heap[k]?=some (.cells cur e (0,0))
structure Stp(M:Nat->Prop)(w:World)(M':Nat->Prop)(w':World):Prop where
 os:w'.os=w.os
 tape:w'.tape=w.tape
 output:w'.output=w.output
 size:w.heap.size<=w'.heap.size
 block:∀k,k<w.heap.size->¬M k->w'.heap[k]?=w.heap[k]? /\ ¬M' k
theorem Stp.refl(M:Nat->Prop)(w:World):Stp M w M w:=⟨rfl,rfl,rfl,n_,fun _ _ h=>⟨rfl,h⟩⟩
theorem Stp.trans{M1 M2 M3:Nat->Prop}{a b c:World}(h:Stp M1 a M2 b)(k:Stp M2 b M3 c):Stp M1 a M3 c :=
 ⟨k.os.trans h.os,k.tape.trans h.tape,k.output.trans h.output,t_ h.size k.size,fun i d e=>by
  obtain⟨f,g⟩:=h.block i d e;obtain⟨j,l⟩:=k.block i (l_ d h.size) g
  exact⟨j.trans f,l⟩⟩
theorem Stp.AA(h:Below w.heap.size w w'):Stp M w M w':=⟨h.os,h.tape,h.output,h.size,fun k a b=>⟨h.block k a,b⟩⟩
theorem Stp.DX{row:Option Nat}(h:w.grownBy w' row)(b:∀k,row=some k->M k):Stp M w M w' :=⟨h.os,h.tape,h.output,h.size,fun k c a=>⟨h.block k c (fun e=>a (b k e.symm)),a⟩⟩
def Mty(M:Nat->Prop)(w:World):Prop:=∀k cur e,M k->w.heap[k]?=some (.cells cur e (0,0))->¬RH e
theorem Stp.MD(h:Stp M w M' w')(c:Mty M w):IX w w':=fun k a e d b =>(h.block k (aB b) (fun f=>c k a e f b d)).1.trans b
theorem IX.ME(h:IX w w'):CU (fun _=>True) w w':=fun k a e _ b c=>h k a e (b.elim .inl (fun x=>.inr (.inl x))) c
theorem f9{xs:List Value}{T:TypeId}(d:IX w w')(e:RH T)(h:w.ownsRow 0 T 1 v n xs):w'.ownsRow 0 T 1 v n xs:=by
 refine⟨h.1,?_⟩;rcases h.2 with f | ⟨g,c,a,rfl,i,j,b⟩
 ·exact .inl f
 ·exact .inr ⟨g,c,a,rfl,i,d g a T e j,b⟩
theorem G4.keep(a:IX w w'):∀(n:Nat)(v:Value)(f:PF),G4 n w v f->G4 n w' v f
 | 0,_,_,h=>h
 | n+1,v,.mk k F d G H I,h=>by
  obtain⟨b,g,j,l,o,p,q,r,s,t,y,z,A,c,B⟩:=h
  exact⟨b,g,j,l,o,p,q,r,s,a b _ _ (.inr (.inr (.inl rfl))) t,f9 a (.inr (.inr (.inr (.inl rfl)))) y,fun i u x C D=>G4.keep a n u x (z i u x C D),
   f9 a (.inr (.inr (.inr (.inr (.inl rfl))))) A,fun e=>⟨(c e).1,(c e).2.elim fun m E=>⟨m,AJ.keep a.ME _ _ _ E⟩⟩,B⟩
theorem RF.keep(a:IX w w'){f:PF}(h:RF w v f):RF w' v f:=h.elim fun n b=>⟨n,G4.keep a n v f b⟩
theorem Sl.AQ{T:TypeId}{sz:Nat}{xs:List Value}(h:Stp M w M' w')(e:Sl M w T sz v n xs):Sl M' w' T sz v n xs:=by obtain⟨f,i,a,rfl,j,k⟩:=e;refine⟨f,i,a,rfl,j,k.imp id ?_⟩;rintro⟨g,b,c,rfl,l,d,m⟩;obtain⟨o,p⟩:=h.block g (aB d) l;exact⟨g,b,c,rfl,p,o.trans d,m⟩
theorem DT.AQ(h:Stp M w M' w')(a:Mty M w):∀(v:Value)(l:List CW),DT M w v l->DT M' w' v l
 | _,[],c=>c
 | _,_::r,c=>by obtain⟨b,e,f,g,d,i,j,k,m,n,o⟩:=c;exact⟨b,e,f,g,d,i,h.MD a b _ _ (.inr (.inr (.inr (.inr (.inr rfl))))) j,k.keep (h.MD a),m.AQ h,n.AQ h,DT.AQ h a d r o⟩
def BL(W:PW):PV->Prop
 | .num n=>n.natAbs<=Pl.CG
 | .pair i=>i<W.pairs.length
 | .proc i=>i<W.procs.length
 | .cont i=>i<W.AG.length
 | .AZ s=>s∈AO
 | .name s=>s.length<=300
 | _=>True
def LG(W:PW)(env:Env):Prop:=∀b∈env,b.2<W.places.length
end
section
namespace Pl
def AL(f:Nat->A9->PV×List (PV×PV))(b:Nat):List A9->PV×List (PV×PV)
 | []=>(.empty,[])
 | x::r=>((.pair (b+(AL f b r).2.length+(f (b+(AL f b r).2.length) x).2.length)),(AL f b r).2++(f (b+(AL f b r).2.length) x).2++[((f (b+(AL f b r).2.length) x).1,(AL f b r).1)])
def made:Nat->Nat->A9->PV×List (PV×PV)
 | 0,_,_=>(.nothing,[])
 | n+1,b,t=>match t with
  | .lit (.int _ m)=>(.num m,[])
  | .lit (.bool x)=>(.AT x,[])
  | .lit (.string s)=>(.name s,[])
  | .agg ts=>AL (made n) b ts
  | _=>(.nothing,[])
end Pl
def cL:Nat->Pl.A9->Prop
 | 0,_=>True
 | n+1,t=>match t with
  | .lit (.int _ m)=>gW m
  | .lit (.string s)=>s.length<=300
  | .agg ts=>∀x∈ts,cL n x
  | _=>True
namespace Pl
def quoted:A9->A9
 | .agg (_::d::_)=>d
 | t=>t
mutual
def settle:PF->Nat->PF×List (PV×PV)
 | .mk k nm d v ks ns,b =>
  if k=.const then(.mk k nm d (made 1000 b (quoted d)).1 ks ns,(made 1000 b (quoted d)).2)
  else(.mk k nm d v (AK ks b).1 ns,(AK ks b).2)
def AK:List PF->Nat->List PF×List (PV×PV)
 | [],_=>([],[])
 | x::r,b=>((settle x b).1::(AK r (b+(settle x b).2.length)).1,(settle x b).2++(AK r (b+(settle x b).2.length)).2)
end
theorem CI(nm:AE)(d:A9)(v:PV)(a:List PF)(ns:List AE)(b:Nat):settle (.mk .const nm d v a ns) b=(.mk .const nm d (made 1000 b (quoted d)).1 a ns,(made 1000 b (quoted d)).2):=by simp [settle]
theorem BC(k:FK)(nm:AE)(d:A9)(v:PV)(a:List PF)(ns:List AE)(b:Nat)(h:k≠.const):settle (.mk k nm d v a ns) b=(.mk k nm d v (AK a b).1 ns,(AK a b).2):=by simp [settle,h]
theorem BV(b:Nat):AK [] b=([],[]):=by simp [AK]
theorem BO(x:PF)(r:List PF)(b:Nat):AK (x::r) b=((settle x b).1::(AK r (b+(settle x b).2.length)).1,(settle x b).2++(AK r (b+(settle x b).2.length)).2):=by simp [AK]
theorem G9:∀(l:List PF)(b:Nat),(AK l b).1.length=l.length
 | [],_=>by simp [AK]
 | x::r,b=>by simp [AK,G9 r]
def BQ(bs:AE):Option PF:=match BX bs with
 | none=>none
 | some l=>match pd l.length l with
  | none=>none
  | some p=>BZ (l.length-1) p.t
structure PO where
 code:Nat
 out:AE
 val:AE
 deriving DecidableEq
def told(r:SR):PO:=⟨r.e,r.W.out,if r.e=0 then cut (text r.W.pairs r.S.val) else []⟩
def AR(W:PW)(f:PF):PW:={W with out:=[],pairs:=W.pairs++(settle f W.pairs.length).2}
def AV(W:PW)(f:PF):PS:=⟨some (settle f W.pairs.length).1,[],.nothing,[]⟩
def over(n:Int):Bool:=decide (n<0)||decide (1000000<n)
def answer(W:PW)(i:AE×Int):PW×PO :=
 if over i.2 then(W,⟨6,[],[]⟩)
 else if check i.1≠0 then(W,⟨check i.1,[],[]⟩)
 else match BQ i.1 with
  | none=>(W,⟨5,[],[]⟩)
  | some f=>((A8 i.2.toNat (AR W f) (AV W f)).W,told (A8 i.2.toNat (AR W f) (AV W f)))
def AF:PW->List (AE×Int)->PW×List PO
 | W,[]=>(W,[])
 | W,i::r=>((AF (answer W i).1 r).1,(answer W i).2::(AF (answer W i).1 r).2)
theorem I7:∀(l:List (AE×Int)) (W:PW) (i:AE×Int),AF W (l++[i])=((answer (AF W l).1 i).1,(AF W l).2++[(answer (AF W l).1 i).2])
 | [],_,_=>rfl
 | x::l,W,i=>by simp only [List.cons_append,AF,I7 l]
theorem H4:∀(l:List (AE×Int)) (W:PW),(AF W l).2.length=l.length
 | [],_=>rfl
 | x::l,W=>by simp [AF,H4 l]
end Pl
end
open Pl (AU)
section
open Go.RowKit
variable {M M':Nat->Prop} {w w':World} {v:Value} {i:Nat}
def B9:TypeId:=161
def E0:TypeId:=369
def D8:TypeId:=61
def B6:TypeId:=214
structure Sg where
 tq:TypeId
 tc:TypeId
 pb:List Nat
 qb:List Nat
 cb:List Nat
 lp:List (Option (Nat×Nat))
 ns:List AE
structure Sg.Le(s t:Sg):Prop where
 tq:t.tq=s.tq
 tc:t.tc=s.tc
 pb:s.pb <+: t.pb
 qb:s.qb <+: t.qb
 cb:s.cb <+: t.cb
 lp:s.lp <+: t.lp
 ns:s.ns <+: t.ns
theorem Sg.Le.refl(s:Sg):Sg.Le s s:=⟨rfl,rfl,List.prefix_refl _,List.prefix_refl _,List.prefix_refl _,List.prefix_refl _,List.prefix_refl _⟩
theorem Sg.Le.trans{a b c:Sg}(h:Sg.Le a b)(k:Sg.Le b c):Sg.Le a c:=⟨k.tq.trans h.tq,k.tc.trans h.tc,h.pb.trans k.pb,h.qb.trans k.qb,h.cb.trans k.cb,h.lp.trans k.lp,h.ns.trans k.ns⟩
theorem bS{α:Type}{a b:List α}(h:a <+: b){x:α}(hi:a[i]?=some x):b[i]?=some x:=by obtain⟨t,rfl⟩:=h;rw [List.getElem?_append_left (s_ hi).1];exact hi
inductive RV (s:Sg):Value->PV->Prop
 | num (n:Int):RV s (.iface 294 (.int .i64 n)) (.num n)
 | AT (b:Bool):RV s (.iface 296 (.bool b)) (.AT b)
 | name (t:AE):RV s (.iface 297 (.string ⟨t.toArray⟩)) (.name t)
 | empty:RV s (.iface 366 (.agg #[])) .empty
 | nothing:RV s (.iface 299 (.agg #[])) .nothing
 | pair (i b:Nat) (h:s.pb[i]?=some b):RV s (.iface 367 (.pointer (some ⟨b,0,none⟩))) (.pair i)
 | proc (i b:Nat) (h:s.qb[i]?=some b):RV s (.iface s.tq (.pointer (some ⟨b,0,none⟩))) (.proc i)
 | cont (i b:Nat) (h:s.cb[i]?=some b):RV s (.iface s.tc (.pointer (some ⟨b,0,none⟩))) (.cont i)
 | AZ (k:Nat) (t:AE) (h:AO[k]?=some t) (hk:k<12):RV s (.iface 246 (.int .i64 (k:Int))) (.AZ t)
 | EC:RV s (.iface 243 (.agg #[])) (.AZ AU)
theorem RV.le{s t:Sg}(l:Sg.Le s t){p:PV}(h:RV s v p):RV t v p:=by
 cases h with
 | num n=>exact .num n
 | AT b=>exact .AT b
 | name t=>exact .name t
 | empty=>exact .empty
 | nothing=>exact .nothing
 | pair i b h=>exact .pair i b (bS l.pb h)
 | proc i b h=>rw [<- l.tq];exact .proc i b (bS l.qb h)
 | cont i b h=>rw [<- l.tc];exact .cont i b (bS l.cb h)
 | AZ k t h a=>exact .AZ k t h a
 | EC=>exact .EC
theorem RV.iface{s:Sg}{p:PV}(h:RV s v p):∃T x,v=.iface T x:=by cases h<;>exact⟨_,_,rfl⟩
theorem RV.QL{s:Sg}{p:PV}(h:RV s v p):v.oneCell'=true:=by cases h<;>rfl
theorem p5{α:Type}{l:List α}{x y:α}(h:(l++[x])[i]?=some y):l[i]?=some y\/(i=l.length/\y=x):=by
 by_cases a:i<l.length
 ·left;rwa [List.getElem?_append_left a] at h
 ·right;rw [List.getElem?_append_right (by omega)] at h;by_cases b:i-l.length=0
  ·rw [b] at h;simp at h;exact⟨by omega,h.symm⟩
  ·rw [List.getElem?_eq_none (by simp;omega)] at h;simp at h
def BY{α β:Type}(R:α->β->Prop)(us:List α)(l:List β):Prop:=us.length=l.length/\∀(i:Nat)(u:α)(x:β),us[i]?=some u->l[i]?=some x->R u x
theorem BY.mono{α β:Type}{R Q:α->β->Prop}{a:List α}{l:List β}(h:BY R a l)(b:∀u x,R u x->Q u x):BY Q a l:=⟨h.1,fun i u x c d=>b u x (h.2 i u x c d)⟩
theorem BY.nil{α β:Type}(R:α->β->Prop):BY R [] []:=⟨rfl,fun i u x h=>by simp at h⟩
theorem BY.snoc{α β:Type}{R:α->β->Prop}{e:List α}{l:List β}(h:BY R e l){u:α}{x:β}(j:R u x):BY R (e++[u]) (l++[x]):=by
 refine⟨by simp [h.1],fun i a b c d=>?_⟩;by_cases f:i<e.length
 ·rw [List.getElem?_append_left f] at c;rw [List.getElem?_append_left (by rw [<- h.1];exact f)] at d;exact h.2 i a b c d
 ·rw [List.getElem?_append_right (by omega)] at c;rw [List.getElem?_append_right (by rw [<- h.1];omega)] at d;have k:=(s_ c).1;have g:i-e.length=0:=by simp at k;omega
  rw [g] at c;rw [<- h.1,g] at d;simp at c d;subst c d;exact j
theorem BY.cons{α β:Type}{R:α->β->Prop}{e:List α}{l:List β}(h:BY R e l){u:α}{x:β}(f:R u x):BY R (u::e) (x::l):=by
 refine⟨by simp [h.1],fun i a b c d=>?_⟩
 cases i with
 | zero=>simp at c d;subst c d;exact f
 | succ i=>simp at c d;exact h.2 i a b c d
theorem BY.drop{α β:Type}{R:α->β->Prop}{c:List α}{l:List β}(h:BY R c l)(k:Nat):BY R (c.drop k) (l.drop k):=⟨by simp [h.1],fun i a b d e=>h.2 (k+i) a b (by simpa using d) (by simpa using e)⟩
theorem BY.append{α β:Type}{R:α->β->Prop}{e vs:List α}{l m:List β}(h:BY R e l)(k:BY R vs m):BY R (e++vs) (l++m):=by
 refine⟨by simp [h.1,k.1],fun i a b c d=>?_⟩;by_cases f:i<e.length
 ·rw [List.getElem?_append_left f] at c;rw [List.getElem?_append_left (by rw [<- h.1];exact f)] at d;exact h.2 i a b c d
 ·rw [List.getElem?_append_right (by omega)] at c;rw [List.getElem?_append_right (by rw [<- h.1];omega),<-h.1] at d;exact k.2 _ a b c d
theorem BY.at_{α β:Type}{R:α->β->Prop}{a:List α}{l:List β}(h:BY R a l){x:β}(b:l[i]?=some x):∃u,a[i]?=some u/\R u x:=by have c:=(s_ b).1;have:=g_ (l:=a) (i:=i) (by rw [h.1];exact c);exact⟨_,this,h.2 i _ x this b⟩
structure BD(M:Nat->Prop)(w:World)(s:Sg)(ps:List (PV×PV)):Prop where
 len:s.pb.length=ps.length
 nodup:s.pb.Nodup
 at_:∀(i b:Nat)(p:PV×PV),s.pb[i]?=some b->ps[i]?=some p->¬M b/\∃x y,w.heap[b]?=some (.cells #[x,y] E0 (0,0))/\RV s x p.1/\RV s y p.2
theorem BD.AQ{s:Sg}{ps:List (PV×PV)}(h:BD M w s ps)(c:Stp M w M' w'):BD M' w' s ps :=
 ⟨h.len,h.nodup,fun i b p d e=>by
  obtain⟨f,x,y,a,g⟩:=h.at_ i b p d e;obtain⟨j,k⟩:=c.block b (aB a) f
  exact⟨k,x,y,j.trans a,g⟩⟩
theorem BD.le{s t:Sg}{ps:List (PV×PV)}(h:BD M w s ps)(l:Sg.Le s t)(hp:t.pb=s.pb):BD M w t ps :=
 ⟨by rw [hp];exact h.len,by rw [hp];exact h.nodup,fun i b p a c=>by
  obtain⟨d,x,y,e,f,g⟩:=h.at_ i b p (by rw [<- hp];exact a) c
  exact⟨d,x,y,e,f.le l,g.le l⟩⟩
def Sg.DD(s:Sg)(b:Nat):Sg:={s with pb:=s.pb++[b]}
theorem Sg.EK(s:Sg)(b:Nat):Sg.Le s (s.DD b):=⟨rfl,rfl,List.prefix_append _ _,List.prefix_refl _,List.prefix_refl _,List.prefix_refl _,List.prefix_refl _⟩
theorem BD.push{s:Sg}{ps:List (PV×PV)}(h:BD M w s ps)(m:∀k,M k->k<w.heap.size){x y:Value}{p:PV×PV}(n:RV s x p.1)(o:RV s y p.2) :BD M (w.alloc (.cells #[x,y] E0)) (s.DD w.heap.size) (ps++[p])/\RV (s.DD w.heap.size) (.iface 367 (.pointer (some ⟨w.heap.size,0,none⟩))) (.pair ps.length):=by
 have j:∀(i b:Nat),s.pb[i]?=some b->b<w.heap.size:=by intro i b c;have d:=(s_ c).1;obtain⟨_,x,y,g,_⟩:=h.at_ i b _ c (g_ (by rw [<- h.len];exact d));exact aB g
 refine⟨⟨by simp [Sg.DD,h.len],?_,?_⟩,.pair _ _ ?_⟩
 ·simp only [Sg.DD,List.nodup_append];refine⟨h.nodup,by simp,?_⟩;rintro a r b c;rintro rfl;simp at c;subst c;obtain⟨i,d⟩:=List.getElem?_of_mem r;have:=j i _ d;omega
 ·intro i b q c f;rcases Nat.lt_or_ge i ps.length with d | d
  ·rw [List.getElem?_append_left d] at f
   have e:s.pb[i]?=some b:=by
    have:=c;simp only [Sg.DD] at this
    rwa [List.getElem?_append_left (by rw [h.len];exact d)] at this
   obtain⟨t,u,v,g,z,A⟩:=h.at_ i b q e f;exact⟨t,u,v,(Below.heap_alloc w _ b (aB g)).trans g,z.le (s.EK _),A.le (s.EK _)⟩
  ·have B:=(s_ f).1;have l:i=ps.length:=by simp at B;omega
   subst l;simp at f;subst f;have e:b=w.heap.size:=by have:=c;simp only [Sg.DD] at this;rw [<- h.len] at this;simpa using this.symm
   subst e;exact⟨fun C=>by have:=m _ C;omega,x,y,heap_alloc_new w _,n.le (s.EK _),o.le (s.EK _)⟩
 ·simp only [Sg.DD];rw [<- h.len];simp
def isQ:Pl.A9->Bool
 | .agg _=>true
 | _=>false
def gU(s:AE)(k:Nat):List Value:=[.string ⟨s.toArray⟩,.int .i64 (k:Int)]
def d7(ns:List AE)(ks:List Nat):List Value:=(List.zip ns ks).flatMap fun p=>gU p.1 p.2
structure EI(M:Nat->Prop)(w:World)(s:Sg)(sl:Value)(ns:List AE):Prop where
 ex:∃ks:List Nat,BY (fun k t=>s.ns[k]?=some t) ks ns/\Sl M w B6 2 sl ns.length (d7 ns ks)
 nodup:ns.Nodup
 len:ns.length<=1000
inductive CP (M:Nat->Prop) (w:World) (s:Sg):Value->PF->Prop
 | const (x:Value) (q:Bool) (nm:AE) (d:Pl.A9) (v:PV) (ks:List PF) (ns:List AE) (h:RV s x v) (hq:q=isQ d):CP M w s (.iface 223 (.agg #[x,.bool q])) (.mk .const nm d v ks ns)
 | name (k:Nat) (nm:AE) (d:Pl.A9) (v:PV) (ks:List PF) (ns:List AE) (h:s.ns[k]?=some nm):CP M w s (.iface 214 (.agg #[.string ⟨nm.toArray⟩,.int .i64 (k:Int)])) (.mk .name nm d v ks ns)
 | iff (a b c:Value) (x y z:PF) (nm:AE) (d:Pl.A9) (v:PV) (ns:List AE) (h1:CP M w s a x) (h2:CP M w s b y) (h3:CP M w s c z):CP M w s (.iface 335 (.agg #[a,b,c])) (.mk .iff nm d v [x,y,z] ns)
 | begin (sl:Value) (us:List Value) (nm:AE) (d:Pl.A9) (v:PV) (ks:List PF) (ns:List AE) (h1:Sl M w D8 1 sl ks.length us) (h2:us.length=ks.length) (h3:∀(i:Nat)(u:Value)(x:PF),us[i]?=some u->ks[i]?=some x->CP M w s u x) (h4:1<=ks.length) (h5:ks.length<=2000):CP M w s (.iface 347 (.agg #[sl])) (.mk .begin nm d v ks ns)
 | call (sl:Value) (us:List Value) (nm:AE) (d:Pl.A9) (v:PV) (ks:List PF) (ns:List AE) (h1:Sl M w D8 1 sl ks.length us) (h2:us.length=ks.length) (h3:∀(i:Nat)(u:Value)(x:PF),us[i]?=some u->ks[i]?=some x->CP M w s u x) (h4:1<=ks.length) (h5:ks.length<=2000):CP M w s (.iface 349 (.agg #[sl])) (.mk .call nm d v ks ns)
 | set (k:Nat) (a:Value) (x:PF) (nm:AE) (d:Pl.A9) (v:PV) (ns:List AE) (h:s.ns[k]?=some nm) (h1:CP M w s a x):CP M w s (.iface 340 (.agg #[.string ⟨nm.toArray⟩,.int .i64 (k:Int),a])) (.mk .set nm d v [x] ns)
 | define (k:Nat) (a:Value) (x:PF) (nm:AE) (d:Pl.A9) (v:PV) (ns:List AE) (h:s.ns[k]?=some nm) (h1:CP M w s a x):CP M w s (.iface 218 (.agg #[.string ⟨nm.toArray⟩,.int .i64 (k:Int),a])) (.mk .define nm d v [x] ns)
 | lambda (sl a:Value) (x:PF) (nm:AE) (d:Pl.A9) (v:PV) (ns:List AE) (h1:EI M w s sl ns) (h2:CP M w s a x):CP M w s (.iface 329 (.agg #[sl,a])) (.mk .lambda nm d v [x] ns)
theorem EI.go{s t:Sg}{sl:Value}{ns:List AE}(h:EI M w s sl ns)(a:Stp M w M' w')(l:Sg.Le s t):EI M' w' t sl ns:=by obtain⟨⟨b,c,d⟩,e,f⟩:=h;exact⟨⟨b,c.mono (fun k t g=>bS l.ns g),d.AQ a⟩,e,f⟩
theorem CP.go{s t:Sg}(o:Stp M w M' w')(l:Sg.Le s t){f:PF}(h:CP M w s v f):CP M' w' t v f:=by
 induction h with
 | const x q e d v j g h B=>exact .const x q e d v j g (h.le l) B
 | name k e d v j g h=>exact .name k e d v j g (bS l.ns h)
 | iff a b c x y z e d v g _ _ _ C D E=>exact .iff a b c x y z e d v g C D E
 | begin m p e d v j g n r _ u A i=>exact .begin m p e d v j g (n.AQ o) r i u A
 | call m p e d v j g n r _ u A i=>exact .call m p e d v j g (n.AQ o) r i u A
 | set k a x e d v g h _ i=>exact .set k a x e d v g (bS l.ns h) i
 | define k a x e d v g h _ i=>exact .define k a x e d v g (bS l.ns h) i
 | lambda m a x e d v g n _ i=>exact .lambda m a x e d v g (n.go o l) i
theorem Sl.weaken{T:TypeId}{sz:Nat}{n:Nat}{xs:List Value}(d:∀k,M' k->M k)(h:Sl M w T sz v n xs):Sl M' w T sz v n xs:=by obtain⟨f,i,a,e,j,l⟩:=h;refine⟨f,i,a,e,j,l.imp id ?_⟩;rintro⟨g,b,c,rfl,m,r⟩;exact⟨g,b,c,rfl,fun x=>m (d g x),r⟩
theorem EI.weaken{s:Sg}{sl:Value}{ns:List AE}(a:∀k,M' k->M k)(h:EI M w s sl ns):EI M' w s sl ns:=by obtain⟨⟨b,c,d⟩,e,f⟩:=h;exact⟨⟨b,c,d.weaken a⟩,e,f⟩
theorem CP.weaken{s:Sg}(n:∀k,M' k->M k){f:PF}(h:CP M w s v f):CP M' w s v f:=by
 induction h with
 | const x q e d v j g h u=>exact .const x q e d v j g h u
 | name k e d v j g h=>exact .name k e d v j g h
 | iff a b c x y z e d v g _ _ _ A B C=>exact .iff a b c x y z e d v g A B C
 | begin l o e d v j g m p _ r t i=>exact .begin l o e d v j g (m.weaken n) p i r t
 | call l o e d v j g m p _ r t i=>exact .call l o e d v j g (m.weaken n) p i r t
 | set k a x e d v g h _ i=>exact .set k a x e d v g h i
 | define k a x e d v g h _ i=>exact .define k a x e d v g h i
 | lambda l a x e d v g m _ i=>exact .lambda l a x e d v g (m.weaken n) i
theorem BD.weaken{s:Sg}{ps:List (PV×PV)}(d:∀k,M' k->M k)(h:BD M w s ps):BD M' w s ps :=⟨h.len,h.nodup,fun i b p a c=>⟨fun x=>(h.at_ i b p a c).1 (d b x),(h.at_ i b p a c).2⟩⟩
theorem CP.iface{s:Sg}{f:PF}(h:CP M w s v f):∃T x,v=.iface T x:=by cases h<;>exact⟨_,_,rfl⟩
end
section
variable {b:Nat}
namespace Pl
abbrev FR:=Option (PF×List (PV×PV))
def EF(o:Option PF)(b:Nat):FR:=o.map fun f=>settle f b
def GG:List (Nat->FR)->Nat->Option (List PF×List (PV×PV))
 | [],_=>some ([],[])
 | F::r,b=>(F b).bind fun p=>(GG r (b+p.2.length)).map fun q=>(p.1::q.1,p.2++q.2)
theorem KP(f:A9->Option PF):∀(a:List A9)(b:Nat),GG (a.map fun t=>EF (f t)) b=(B1 f a).map fun l=>AK l b
 | [],b=>by simp [GG,B1,BV]
 | t::r,b=>by
  simp only [List.map_cons,GG,B1]
  cases h:f t with
  | none=>simp [EF]
  | some x =>
   simp only [EF,Option.map_some,Option.bind_some];rw [KP f r]
   cases B1 f r with
   | none=>rfl
   | some l=>simp [BO]
def Left(Fs:List (Nat->FR))(b:Nat)(k:Nat)(fs:List PF)(new:List (PV×PV)):Prop :=GG Fs b=(GG (Fs.drop k) (b+new.length)).map fun q=>(fs++q.1,new++q.2)
theorem Left.start(a:List (Nat->FR))(b:Nat):Left a b 0 [] []:=by unfold Left;simp
theorem Left.more{c:List (Nat->FR)}{k:Nat}{d:List PF}{a:List (PV×PV)}(h:Left c b k d a){F:Nat->FR}{p:PF×List (PV×PV)}(e:c[k]?=some F)(hp:F (b+a.length)=some p):Left c b (k+1) (d++[p.1]) (a++p.2):=by
 unfold Left at h ⊢;rw [h];obtain⟨f,rfl⟩:=s_ e;rw [List.drop_eq_getElem_cons f];simp only [GG,hp,Option.bind_some,Option.map_map];rw [a_,Nat.add_assoc]
 congr 1
 funext q
 simp
theorem Left.none_{c:List (Nat->FR)}{k:Nat}{d:List PF}{a:List (PV×PV)}(h:Left c b k d a){F:Nat->FR}(e:c[k]?=some F)(hp:F (b+a.length)=none):GG c b=none:=by unfold Left at h;rw [h];obtain⟨f,rfl⟩:=s_ e;rw [List.drop_eq_getElem_cons f];simp [GG,hp]
theorem Left.done{c:List (Nat->FR)}{d:List PF}{a:List (PV×PV)}(h:Left c b c.length d a):GG c b=some (d,a):=by unfold Left at h;rw [h,List.drop_length];simp [GG]
def BB:Nat->A9->Nat
 | 0,_=>0
 | n+1,t=>match t with
  | .agg ts=>(ts.map (BB n)).sum
  | _=>1
theorem F4(l:List Nat):∀(k:Nat)(x:Nat),l[k]?=some x->(l.take (k+1)).sum=(l.take k).sum+x:=by intro k x h;rw [List.take_add_one,h];simp
theorem DH(l:List Nat)(k:Nat):(l.take k).sum<=l.sum:=by
 conv=>rhs;rw [<- List.take_append_drop k l]
 rw [List.sum_append];omega
structure PdOk(n:Nat)(l:List Tok)(p:PR):Prop where
 words:BB n p.t+p.q.length<=l.length
 CG:p.gr=false->(∀t∈l,t.length<=300)->cL n p.t
theorem pls_ok(n:Nat)(j:∀l p,pd n l=some p->PdOk n l p):∀(k:Nat)(l:List Tok)(p:PL),IG (pd n) k l=some p->((p.ts.map (BB n)).sum+p.q.length+1<=l.length/\(p.gr=false->(∀t∈l,t.length<=300)->∀x∈p.ts,cL n x)):=by
 intro k
 induction k with
 | zero=>intro l p h;simp [IG] at h
 | succ k b =>
  intro l p h
  cases l with
  | nil=>simp [IG] at h
  | cons t r =>
   rw [I9] at h;split at h
   ·obtain rfl:=i_ h;simp
   ·cases a:pd n (t::r) with
    | none=>rw [a] at h;simp at h
    | some m =>
     rw [a] at h;dsimp only at h;have f:=j _ _ a
     cases c:IG (pd n) k m.q with
     | none=>rw [c] at h;simp at h
     | some q =>
      rw [c] at h;have g:=b _ _ c;simp only [Option.map_some,o_] at h;subst h;refine⟨?_,?_⟩
      ·have:=f.words;have:=g.1;simp only [List.map_cons,List.sum_cons];omega
      ·intro d i x e;simp only [Bool.or_eq_false_iff] at d;rcases List.mem_cons.1 e with rfl | e
       ·exact f.CG d.1 i
       ·exact g.2 d.2 (fun y o=>i y ((FI _ _ _ a).1.mem o)) x e
theorem wJ{t:Tok}(h:ER t=false):gW (F3 t):=by
 unfold ER at h;have h:F5 (EY t)<=CG:=by simpa using h
 unfold gW F3;split<;>omega
theorem NP:∀(n:Nat)(l:List Tok)(p:PR),pd n l=some p->PdOk n l p
 | 0,_,_,h=>by simp [pd] at h
 | n+1,[],_,h=>by simp [pd] at h
 | n+1,t::r,p,h=>by
  unfold pd at h;split at h
  ·simp at h
  split at h
  ·obtain rfl:=i_ h;exact⟨by simp [BB];omega,fun _ _=>trivial⟩
  split at h
  ·obtain rfl:=i_ h;exact⟨by simp [BB];omega,fun _ _=>trivial⟩
  split at h
  ·simp only [Option.map_eq_some_iff] at h;obtain⟨d,a,rfl⟩:=h;have o:=NP n r d a;have g:=o.words
   cases n with
   | zero=>simp [pd] at a
   | succ m =>
    refine⟨?_,fun b c x e=>?_⟩
    ·simp only [BB,List.map_cons,List.map_nil,List.sum_cons,List.sum_nil,c_] at g ⊢;omega
    ·rcases List.mem_cons.1 e with rfl | e
     ·show CB.length<=300;decide
     ·obtain rfl:x=d.t:=by simpa using e
      exact o.CG b (fun y f=>c y (List.mem_cons_of_mem _ f))
  split at h
  ·simp only [Option.map_eq_some_iff] at h;obtain⟨d,a,rfl⟩:=h;have o:=pls_ok n (NP n) _ _ _ a;exact⟨by have:=o.1;simp only [BB,c_];omega,fun b c=>o.2 b (fun y f=>c y (List.mem_cons_of_mem _ f))⟩
  ·simp only [Option.map_eq_some_iff] at h;obtain⟨d,a,rfl⟩:=h;unfold pw at a;split at a
   ·obtain rfl:=i_ a;exact⟨by simp [BB];omega,fun b _=>wJ b⟩
   ·split at a
    ·obtain rfl:=i_ a;exact⟨by simp [BB];omega,fun _ c=>c t (by simp)⟩
    ·simp at a
end Pl
end
section
open Go.RowKit
variable {w w':World} {wb sz n k:Nat} {M:Nat->Prop} {T:TypeId} {xs qs cs:List Value} {v pv qv cv lv gv:Value}
def fW:Option Nat->Int
 | some k=>k
 | none=>-1
theorem d6(k:Nat):fW (some k)=k:=rfl
theorem aX{α:Type}(f:α->List Value)(b:Nat)(c:∀a,(f a).length=b)(l:List α)(i j:Nat)(a:α)(hi:l[i]?=some a)(e:j<b):(l.flatMap f)[i*b+j]?=(f a)[j]? := by
 induction l generalizing i with
 | nil=>simp at hi
 | cons x l d =>
  simp only [List.flatMap_cons]
  cases i with
  | zero =>simp only [List.getElem?_cons_zero,o_] at hi;subst hi;rw [List.getElem?_append_left (by rw [c];omega)];simp
  | succ i =>rw [List.getElem?_append_right (by rw [c,Nat.add_mul];omega),c];rw [show(i+1)*b+j-b=i*b+j from by rw [Nat.add_mul];omega];exact d i (by simpa using hi)
theorem Sl.cell{b:Option Addr}{cap:Nat}(h:Sl M w T sz (.slice b n cap) n xs)(p:0<n):∃g a,b=some ⟨g,a,none⟩/\g<w.heap.size/\¬M g/\∀(i:Nat)(u:Value),xs[i]?=some u->w.cell? ⟨g,a+i,none⟩=some u:=by
 obtain⟨_,j,c,e,_,d⟩:=h;simp only [Value.slice.injEq,true_and] at e;obtain⟨rfl,rfl⟩:=e;rcases d with d | ⟨g,a,k,rfl,l,f,m⟩
 ·omega
 ·exact⟨g,a,rfl,aB f,l,fun i u o=>(aA f _).trans (m i u o)⟩
theorem Sl.shape(h:Sl M w T sz v n xs):∃b a,v=.slice b n a/\n<=a:=by obtain⟨_,b,a,e,c,_⟩:=h;exact⟨b,a,e,c⟩
theorem gT(h:w.ownsRow 0 T sz v n xs):Sl (fun _=>False) w T sz v n xs:=by
 refine⟨h.1,?_⟩;rcases h.2 with⟨rfl,rfl⟩ | ⟨g,b,c,rfl,_,d,e,_,j,f⟩
 ·exact⟨none,0,rfl,n_,.inl rfl⟩
 ·refine⟨some ⟨g,0,none⟩,b,rfl,e,.inr ⟨g,0,c,rfl,id,d,fun i u a=>?_⟩⟩;rw [Nat.zero_add];rw [<- f,List.getElem?_take] at a;split at a
  ·simpa using a
  ·simp at a
theorem aAI(env:Env)(i:Nat)(b:AE×Nat)(h:env[i]?=some b):(env.flatMap iM)[i*2]?=some (AM b.1)/\(env.flatMap iM)[i*2+1]?=some (.int .i64 b.2) :=⟨aX iM 2 (fun _=>rfl) env i 0 b h (by decide),aX iM 2 (fun _=>rfl) env i 1 b h (by decide)⟩
theorem aAG(env:Env)(s:AE)(i:Nat)(b:AE×Nat)(h:env[i]?=some b)(a:Pl.find (env.drop (i+1)) s=none)(c:b.1=s):Pl.find env s=some b.2:=by
 have d:env=env.take i++(b::env.drop (i+1)):=by have f:=(s_ h).1;have e:=(s_ h).2;rw [<- e,List.getElem_cons_drop,List.take_append_drop]
 rw [d,Pl.FJ];simp [Pl.find,a,c]
theorem wN(env:Env)(s:AE)(i:Nat)(b:AE×Nat)(h:env[i]?=some b)(a:Pl.find (env.drop (i+1)) s=none)(c:¬b.1=s):Pl.find (env.drop i) s=none:=by have d:=(s_ h).1;have e:=(s_ h).2;rw [<- List.getElem_cons_drop d,e];simp [Pl.find,a,c]
theorem lM(M:Nat->Prop)(w:World)(v:Value)(env:Env)(s:AE)(h:DF M w v env)(A:env.length<=4611686018427387904) :Calls prog 124 #[v,.string ⟨s.toArray⟩] w fun e r=>e=.returned (.int .i64 (fW (Pl.find env s)))/\w=r:=by
 obtain⟨B,t,rfl,q⟩:=h.shape;have H:=h_ h;clear h;go_enter func124,ntmps124;go_wp2_with fail
 go_loopw [5] (fun i wr=>∃k:Nat,k<=env.length/\i=.int .i64 ((k:Int)-1)/\wr=w/\Hid (Pl.find (env.drop k) s=none)) (fun i _=>(intOf i+1).toNat)
 case atStart=>exact⟨env.length,n_,by go_num,rfl,by simp [Hid,Pl.find]⟩
 case round =>
  obtain⟨k,C,rfl,rfl,j⟩:=hrel;by_cases l:k=0
  ·subst l;have c:Hid (Pl.find env s=none):=show Pl.find env s=none from by simpa using j.out
   go_wp2_with fail
   go_ret;exact⟨by rw [c.out];rfl,rfl⟩
  ·obtain⟨i,rfl⟩:∃i,k=i+1:=⟨k-1,by omega⟩
   obtain⟨b,d⟩:∃b,env[i]?=some b:=⟨env[i]'(by omega),g_ (by omega)⟩
   obtain⟨g,u,rfl,D,_,f⟩:=Sl.cell H (by omega);obtain⟨m,n⟩:=aAI env i b d;have x:=f _ _ m;have y:=f _ _ n;rw [<- Nat.add_assoc] at y;unfold AM at x;have o:((i+1:Nat):Int)-1=(i:Int):=by omega
   rw [o];have z:(i:Int)<(env.length:Int):=by omega
   by_cases a:b.1=s
   ·have c:=h_ (aAG env s i b d j a);have p:(b.1==s)=true:=by simpa using a
    clear d f m n a;go_wp2_with fail;go_ret;exact⟨by rw [c.out];rfl,rfl⟩
   ·have c:=h_ (wN env s i b d j a);have p:(b.1==s)=false:=by simpa using a
    clear d f m n a;go_wp2_with fail;exact⟨⟨i,by omega,by go_num,trivial,c⟩,by simp [intOf]⟩
def CQ(wb:Nat)(l:List Value)(k:Nat):Prop:=k=wb\/∃v∈l,Value.ownBlock v=some k
structure EV(w:World)(wb:Nat)(W:PW)(pv qv cv lv gv:Value)(qs cs:List Value):Prop where
 blk:w.heap[wb]?=some (.cells #[pv,qv,cv,lv,gv,AM W.out] MG (0,0))
 pr:w.ownsRow 0 VR 6 pv W.pairs.length (W.pairs.flatMap mG)
 pc:w.ownsRow 0 VQ 2 qv W.procs.length qs
 pcs:∀(i:Nat)(p:PF×Env),W.procs[i]?=some p->∃fv ev,qs[i*2]?=some fv/\qs[i*2+1]?=some ev/\RF w fv p.1/\p.1.k=.lambda/\DF (CQ wb [pv,qv,cv,lv,gv]) w ev p.2
 cn:w.ownsRow 0 RX 1 cv W.AG.length cs
 cns:∀(i:Nat)(fs:List CW),W.AG[i]?=some fs->∃u,cs[i]?=some u/\DT (CQ wb [pv,qv,cv,lv,gv]) w u fs
 pl:w.ownsRow 0 TV 3 lv W.places.length (W.places.flatMap cZ)
 gl:w.ownsRow 0 TB 2 gv W.globals.length (W.globals.flatMap iM)
 out:W.out.length<=1000
def RW(w:World)(wb:Nat)(M:Nat->Prop)(W:PW):Prop:=∃pv qv cv lv gv qs cs,M=CQ wb [pv,qv,cv,lv,gv]/\EV w wb W pv qv cv lv gv qs cs
theorem aN{b:Nat}(h:w.ownsRow b T sz v n xs):∀k,v.ownBlock=some k->∃a,w.heap[k]?=some (.cells a T (0,0)):=by
 intro k c;rcases h.2 with⟨rfl,_⟩ | ⟨g,d,a,rfl,_,e,_⟩
 ·simp [Value.ownBlock] at c
 ·simp only [Value.ownBlock,o_] at c;subst c;exact⟨a,e⟩
theorem aK{c1 c2:Array Value}{T1 T2:TypeId}(b:w.heap[k]?=some (.cells c1 T1 (0,0)))(a:w.heap[k]?=some (.cells c2 T2 (0,0))):c1=c2/\T1=T2:=by rw [b] at a;simp only [o_,Obj.cells.injEq,and_true] at a;exact a
theorem EV.X5{W:PW}(h:EV w wb W pv qv cv lv gv qs cs):Mty (CQ wb [pv,qv,cv,lv,gv]) w:=by
 intro k g e i b j
 have l:e=MG\/e=VR\/e=VQ\/e=RX\/e=TV\/e=TB:=by
  rcases i with rfl | ⟨v,f,d⟩
  ·exact .inl (aK b h.blk).2
  ·simp only [List.mem_cons,List.not_mem_nil,or_false] at f;rcases f with rfl | rfl | rfl | rfl | rfl
   ·obtain⟨c,a⟩:=aN h.pr k d;exact .inr (.inl (aK b a).2)
   ·obtain⟨c,a⟩:=aN h.pc k d;exact .inr (.inr (.inl (aK b a).2))
   ·obtain⟨c,a⟩:=aN h.cn k d;exact .inr (.inr (.inr (.inl (aK b a).2)))
   ·obtain⟨c,a⟩:=aN h.pl k d;exact .inr (.inr (.inr (.inr (.inl (aK b a).2))))
   ·obtain⟨c,a⟩:=aN h.gl k d;exact .inr (.inr (.inr (.inr (.inr (aK b a).2))))
 revert j
 rcases l with rfl | rfl | rfl | rfl | rfl | rfl<;>(unfold RH;decide)
theorem RW.X5{W:PW}(h:RW w wb M W):Mty M w:=by obtain⟨a,b,c,d,e,f,g,rfl,h⟩:=h;exact h.X5
theorem RW.notM{W:PW}(h:RW w wb M W){cur:Array Value}{e:TypeId}(b:w.heap[k]?=some (.cells cur e (0,0)))(g:¬(e=MG\/e=VR\/e=VQ\/e=RX\/e=TV\/e=TB)):¬M k:=by
 obtain⟨j,l,m,n,o,p,q,rfl,h⟩:=h;intro i;apply g;rcases i with rfl | ⟨v,f,d⟩
 ·exact .inl (aK b h.blk).2
 ·simp only [List.mem_cons,List.not_mem_nil,or_false] at f;rcases f with rfl | rfl | rfl | rfl | rfl
  ·obtain⟨c,a⟩:=aN h.pr k d;exact .inr (.inl (aK b a).2)
  ·obtain⟨c,a⟩:=aN h.pc k d;exact .inr (.inr (.inl (aK b a).2))
  ·obtain⟨c,a⟩:=aN h.cn k d;exact .inr (.inr (.inr (.inl (aK b a).2)))
  ·obtain⟨c,a⟩:=aN h.pl k d;exact .inr (.inr (.inr (.inr (.inl (aK b a).2))))
  ·obtain⟨c,a⟩:=aN h.gl k d;exact .inr (.inr (.inr (.inr (.inr (aK b a).2))))
theorem RW.lt{W:PW}(h:RW w wb M W)(c:M k):k<w.heap.size:=by
 obtain⟨d,e,f,g,i,j,l,rfl,h⟩:=h;rcases c with rfl | ⟨v,b,a⟩
 ·exact aB h.blk
 ·simp only [List.mem_cons,List.not_mem_nil,or_false] at b;rcases b with rfl | rfl | rfl | rfl | rfl
  ·exact(h.pr.lt k a).2
  ·exact(h.pc.lt k a).2
  ·exact(h.cn.lt k a).2
  ·exact(h.pl.lt k a).2
  ·exact(h.gl.lt k a).2
structure Chg(w w':World)(wb:Nat)(row:Option Nat):Prop where
 os:w'.os=w.os
 tape:w'.tape=w.tape
 output:w'.output=w.output
 size:w.heap.size<=w'.heap.size
 block:∀k,k<w.heap.size->k≠wb->some k≠row->w'.heap[k]?=w.heap[k]?
theorem aL{row:Option Nat}{Tr:TypeId}{cw:Array Value}(h:w.ownsRow 0 T sz v n xs)(i:Chg w w' wb row)(l:w.heap[wb]?=some (.cells cw MG (0,0)))
  (b:∀k,row=some k->∃a,w.heap[k]?=some (.cells a Tr (0,0))) (m:T≠MG) (o:T≠Tr):w'.ownsRow 0 T sz v n xs:=by
 refine⟨h.1,?_⟩;rcases h.2 with p | ⟨g,j,a,rfl,q,f,d⟩
 ·exact .inl p
 ·refine .inr ⟨g,j,a,rfl,q,?_,d⟩;rw [i.block g (aB f) ?_ ?_]
  ·exact f
  ·rintro rfl;exact m (aK f l).2
  ·intro e;obtain⟨c,i⟩:=b g e.symm;exact o (aK f i).2
theorem Chg.AQ{row:Option Nat}{l l':List Value}(a:Chg w w' wb row)(b:∀k,row=some k->CQ wb l k)(f:∀k,k<w.heap.size->CQ wb l' k->CQ wb l k):Stp (CQ wb l) w (CQ wb l') w' :=⟨a.os,a.tape,a.output,a.size,fun k d c=>⟨a.block k d (fun e=>c (.inl e)) (fun e=>c (b k e.symm)),fun h=>c (f k d h)⟩⟩
theorem EV.upd{W W':PW}{pv' qv' cv' lv' gv':Value}{qs' cs':List Value}(h:EV w wb W pv qv cv lv gv qs cs)
  (k:Stp (CQ wb [pv,qv,cv,lv,gv]) w (CQ wb [pv',qv',cv',lv',gv']) w')
  (o:w'.heap[wb]?=some (.cells #[pv',qv',cv',lv',gv',AM W'.out] MG (0,0)))
  (q:w'.ownsRow 0 VR 6 pv' W'.pairs.length (W'.pairs.flatMap mG)) (r:w'.ownsRow 0 VQ 2 qv' W'.procs.length qs') (s:w'.ownsRow 0 RX 1 cv' W'.AG.length cs')
  (t:w'.ownsRow 0 TV 3 lv' W'.places.length (W'.places.flatMap cZ)) (v:w'.ownsRow 0 TB 2 gv' W'.globals.length (W'.globals.flatMap iM)) (x:W'.out.length<=1000)
  (hp:∀(i:Nat)(p:PF×Env),W'.procs[i]?=some p->(W.procs[i]?=some p/\qs'[i*2]?=qs[i*2]? /\ qs'[i*2+1]?=qs[i*2+1]?)\/∃g j,qs'[i*2]?=some g/\qs'[i*2+1]?=some j/\RF w' g p.1/\p.1.k=.lambda/\DF (CQ wb [pv',qv',cv',lv',gv']) w' j p.2)
  (y:∀(i:Nat)(f:List CW),W'.AG[i]?=some f->(W.AG[i]?=some f/\cs'[i]?=cs[i]?)\/∃u,cs'[i]?=some u/\DT (CQ wb [pv',qv',cv',lv',gv']) w' u f):EV w' wb W' pv' qv' cv' lv' gv' qs' cs':=by
 refine⟨o,q,r,?_,s,?_,t,v,x⟩
 ·intro i p l;rcases hp i p l with⟨m,n,z⟩ | h
  ·obtain⟨g,j,a,b,c,d,e⟩:=h.pcs i p m;exact⟨g,j,n.trans a,z.trans b,c.keep (k.MD h.X5),d,e.AQ k⟩
  ·exact h
 ·intro i f l;rcases y i f l with⟨m,n⟩ | h
  ·obtain⟨u,a,b⟩:=h.cns i f m;exact⟨u,n.trans a,DT.AQ k h.X5 _ _ b⟩
  ·exact h
theorem EV.later{W:PW}(h:EV w wb W pv qv cv lv gv qs cs)(l:∀k,k<w.heap.size->w'.heap[k]?=w.heap[k]?)(o:Stp (CQ wb [pv,qv,cv,lv,gv]) w (CQ wb [pv,qv,cv,lv,gv]) w'):EV w' wb W pv qv cv lv gv qs cs:=by
 have a:∀{T:TypeId} {c:Nat} {v:Value} {n:Nat} {d:List Value},w.ownsRow 0 T c v n d->w'.ownsRow 0 T c v n d:=by
  intro T c v n d h;refine⟨h.1,?_⟩;rcases h.2 with q | ⟨g,e,f,rfl,r,m,b⟩
  ·exact .inl q
  ·exact .inr ⟨g,e,f,rfl,r,(l g (aB m)).trans m,b⟩
 exact h.upd o ((l wb (aB h.blk)).trans h.blk) (a h.pr) (a h.pc) (a h.cn) (a h.pl) (a h.gl) h.out (fun i p j=>.inl ⟨j,rfl,rfl⟩) (fun i s j=>.inl ⟨j,rfl⟩)
theorem RW.later{W:PW}(h:RW w wb M W)(a:Below w.heap.size w w'):RW w' wb M W:=by obtain⟨b,c,d,e,f,g,i,rfl,h⟩:=h;exact⟨b,c,d,e,f,g,i,rfl,h.later (fun k j=>a.block k j) (Stp.AA a)⟩
theorem fJ{l l':List Value}{v':Value}(d:v∈l)(f:∀x∈l',x∈l\/x=v')(a:∀k,v'.ownBlock=some k->v.ownBlock=some k\/w.heap.size<=k):∀k,k<w.heap.size->CQ wb l' k->CQ wb l k:=by
 intro k j g;rcases g with e | ⟨x,h,b⟩
 ·exact .inl e
 ·rcases f x h with i | rfl
  ·exact .inr ⟨x,i,b⟩
  ·rcases a k b with c | c
   ·exact .inr ⟨v,d,c⟩
   ·omega
end
end Go.Proofs.YtkgbdddkcjpgfaaGreatDoor
