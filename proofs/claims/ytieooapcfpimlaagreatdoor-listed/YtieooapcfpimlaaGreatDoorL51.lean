import Derived.Test.YtieooapcfpimlaaGreatDoorL50
namespace Go.Proofs.YtieooapcfpimlaaGreatDoor
set_option maxHeartbeats 1000000
set_option maxRecDepth 100000
open Go.Proofs.Tryz
open Pl (AW)
section
open Go.RowKit Go.Lib Go.Maps
theorem aK8(w:World)(v:Value)(ins:List (ByteArray×Int))(c:F8 w v ins)(d:ins.length<=GK)(h:Low w) :Calls prog 10 #[v] w fun e a=>∃b,e=.returned b/\Below w.heap.size w a/\KB a b (Pl.fses (AW,false) (ins.map B5)).2:=p_fast w v ins c d h.DI h.B3 h.JQ h.gt h.ge
def letT:ByteArray:=⟨#[40,108,101,116,32,40,40,108,32,49,41,41,32,108,41]⟩
def aJT:List (ByteArray×Int):=[(⟨#[55]⟩,2000),(⟨#[120]⟩,2000),(⟨#[40]⟩,2000),(letT,10),(⟨#[55]⟩,1000000)]
theorem aKX:(Pl.fses (AW,false) (aJT.map B5)).2=[⟨0,[],[55]⟩,⟨8,[],[]⟩,⟨2,[],[]⟩,⟨0,[],[49]⟩,⟨0,[],[55]⟩]:=by kernel_rfl
def aJU:Array Value:=#[.string ⟨#[55]⟩,.int .i64 2000,.string ⟨#[120]⟩,.int .i64 2000,.string ⟨#[40]⟩,.int .i64 2000,.string ⟨#[40,108,101,116,32,40,40,108,32,49,41,41,32,108,41]⟩,.int .i64 10,.string ⟨#[55]⟩,.int .i64 1000000]
theorem aKY(w:World):F8 (w.alloc (.cells aJU 25)) (.slice (some ⟨w.heap.size,0,none⟩) 5 5) aJT:=by refine qB (l:=aJT) (heap_alloc_new w _) (fun k i a=>?_) 5 (by decide);have b:k<5:=(s_ a).1;rcases(show k=0\/k=1\/k=2\/k=3\/k=4 from by omega) with rfl | rfl | rfl | rfl | rfl<;>(obtain rfl:=i_ a;exact⟨rfl,rfl⟩)
def QkQ(w w':World)(g cap:Nat):Prop:=Below w.heap.size w w'/\5<=cap/\g<w'.heap.size/\w'.cell? ⟨g,0,none⟩=some (.int .i64 0)/\w'.cell? ⟨g,1,none⟩=some (.string ⟨#[]⟩)/\w'.cell? ⟨g,2,none⟩=some (.string ⟨#[55]⟩)/\w'.cell? ⟨g,3,none⟩=some (.int .i64 8)/\w'.cell? ⟨g,6,none⟩=some (.int .i64 2)/\w'.cell? ⟨g,9,none⟩=some (.int .i64 0)/\w'.cell? ⟨g,10,none⟩=some (.string ⟨#[]⟩)/\w'.cell? ⟨g,11,none⟩=some (.string ⟨#[49]⟩)/\w'.cell? ⟨g,12,none⟩=some (.int .i64 0)/\w'.cell? ⟨g,13,none⟩=some (.string ⟨#[]⟩)/\w'.cell? ⟨g,14,none⟩=some (.string ⟨#[55]⟩)
theorem QkQ.later{w w1 w2:World}{g cap:Nat}(h:QkQ w w1 g cap)(a:Below w1.heap.size w1 w2):QkQ w w2 g cap:=by obtain⟨d,f,e,i,j,k,l,m,n,q,r,s,t,b⟩:=h;have c:∀{o:Nat} {x:Value},w1.cell? ⟨g,o,none⟩=some x->w2.cell? ⟨g,o,none⟩=some x:=fun {o} {x} u=>(a.cell (p:=⟨g,o,none⟩) e).trans u;exact⟨d.trans (a.mono d.size),f,l_ e a.size,c i,c j,c k,c l,c m,c n,c q,c r,c s,c t,c b⟩
theorem quick_q{w w':World}{rv:Value}(i:Below w.heap.size w w')(h:KB w' rv [⟨0,[],[55]⟩,⟨8,[],[]⟩,⟨2,[],[]⟩,⟨0,[],[49]⟩,⟨0,[],[55]⟩]):∃g a,rv=.slice (some ⟨g,0,none⟩) 5 a/\QkQ w w' g a:=by obtain⟨x,a,rfl,j,b⟩:=h;obtain⟨g,rfl,k,l,m,n⟩:=b 0 _ rfl;obtain⟨y,c,_,o,_,_⟩:=b 1 _ rfl;obtain⟨z,d,_,p,_,_⟩:=b 2 _ rfl;obtain⟨A,e,_,q,r,s⟩:=b 3 _ rfl;obtain⟨B,f,_,t,u,v⟩:=b 4 _ rfl;simp only [o_,Addr.mk.injEq,and_true] at c d e f;subst c d e f;exact⟨g,a,rfl,i,j,k,l,m,n,o,p,q,r,s,t,u,v⟩
theorem p_quick(w:World)(h:Low w):Calls prog 5 #[] w fun e b=>e=.returned (.bool true)/\Below w.heap.size w b:=by
 have F:Hid (∀(c:World)(s:ByteArray),Below w.heap.size w c->Calls prog 6 #[.string s] c fun e b=>e=.returned (.agg #[.string s,.int .i64 2000])/\Hid (Below w.heap.size w b)):=fun c s j=>(aRC c s).mono (fun e b ⟨k,l⟩=>⟨k,j.trans (l.mono j.size)⟩);have r:Hid (∀f:World,Below w.heap.size w f->Calls prog 10 #[.slice (some ⟨f.heap.size,0,none⟩) 5 5] (f.alloc (.cells aJU 25)) fun e b=>∃g a,e=.returned (.slice (some ⟨g,0,none⟩) 5 a)/\Hid (QkQ w b g a)):=fun f j=>by have d:Below w.heap.size w (f.alloc (.cells aJU 25)):=j.alloc j.size _;refine(aK8 _ _ aJT (aKY f) (by decide) (h.below d)).mono (fun e b ⟨I,k,l,t⟩=>?_);rw [aKX] at t;obtain⟨g,a,rfl,q⟩:=quick_q (d.trans (l.mono d.size)) t;exact⟨g,a,k,q⟩
 have G:Hid (∀c g a (s:ByteArray),QkQ w c g a->Calls prog 11 #[.agg #[.int .i64 0,.string ⟨#[]⟩,.string s],.string s,.string ⟨#[]⟩] c fun e b=>e=.returned (.bool true)/\Hid (QkQ w b g a)):=fun c g a s q=>(aAT c 0 _ _ _ _).mono (fun e b ⟨k,l⟩=>⟨by rw [k];simp,q.later l⟩);unfold aJU at r;clear h;go_enter func5,ntmps5
 go_wp2_with (first
  | (go_at_call 6;refine(F _ _ (by first | exact m.out | exact r_)).mono ?_;rintro e c ⟨rfl,m⟩)
  | (go_at_call 10;refine(r _ m).mono ?_;rintro e J ⟨g,a,rfl,i⟩;obtain⟨_,n,H,u,v,x,y,z,A,B,C,D,E,o⟩:=i.out)
  | (go_at_call 11;refine(G _ _ _ _ i).mono ?_;rintro e K ⟨rfl,p⟩;clear i u v x y z A B C D E o;have i:=p;clear p;obtain⟨_,n,H,u,v,x,y,z,A,B,C,D,E,o⟩:=i.out))
 go_ret;exact⟨rfl,i.1⟩
end
open Pl (PO)
section
open Go.RowKit
variable {w:World} {n:Nat}
theorem KB.row{v:Value}{l:List PO}(h:KB w v l)(c:l.length=n):∃b a,v=.slice b n a/\n<=a:=by obtain⟨b,a,e,d,_⟩:=h;subst c;exact⟨b,a,e,d⟩
theorem F8.row{v:Value}{l:List (ByteArray×Int)}(h:F8 w v l)(c:l.length=n):∃b a,v=.slice b n a/\n<=a:=by obtain⟨b,a,e,d,_⟩:=h;subst c;exact⟨b,a,e,d⟩
theorem KB.get{a:Option Addr}{cap:Nat}{l:List PO}(h:KB w (.slice a n cap) l){k:Nat}{o:PO}(c:l[k]?=some o):∃g,a=some ⟨g,0,none⟩/\g<w.heap.size/\w.cell? ⟨g,k*3,none⟩=some (.int .i64 (o.code:Int))/\w.cell? ⟨g,k*3+1,none⟩=some (.string ⟨o.out.toArray⟩)/\w.cell? ⟨g,k*3+2,none⟩=some (.string ⟨o.val.toArray⟩):=by obtain⟨d,b,e,i,f⟩:=h;simp only [Value.slice.injEq] at e;obtain⟨rfl,_,_⟩:=e;exact f k o c
end
section
namespace Pl
inductive TK where
 | cl
 | tr
 | fa
 | qu
 | op
 | wd (x:Option (A9×Bool))
def tk(t:Tok):TK:=if t=g8 then .cl else if t=aP0 then .tr else if t=tO then .fa else if t=tN then .qu else if t=aP1 then .op else .wd (pw t)
structure PK where
 t:A9
 q:List TK
 dp:Nat
 gr:Bool
structure PKL where
 ts:List A9
 q:List TK
 dp:Nat
 gr:Bool
def plsK(f:List TK->Option PK):Nat->List TK->Option PKL
 | 0,_=>none
 | _+1,[]=>none
 | k+1,t::r=>match t with
  | .cl=>some ⟨[],r,0,false⟩
  | _=>match f (t::r) with
   | none=>none
   | some p=>match plsK f k p.q with
    | none=>none
    | some l=>some ⟨p.t::l.ts,l.q,max p.dp l.dp,p.gr||l.gr⟩
def pdK:Nat->List TK->Option PK
 | 0,_=>none
 | _+1,[]=>none
 | n+1,t::r=>match t with
  | .cl=>none
  | .tr=>some ⟨.lit (.bool true),r,0,false⟩
  | .fa=>some ⟨.lit (.bool false),r,0,false⟩
  | .qu=>match pdK n r with
   | none=>none
   | some p=>some ⟨.agg [.lit (.string CB),p.t],p.q,p.dp+1,p.gr⟩
  | .op=>match plsK (pdK n) r.length r with
   | none=>none
   | some p=>some ⟨.agg p.ts,p.q,p.dp+1,p.gr⟩
  | .wd none=>none
  | .wd (some x)=>some ⟨x.1,r,0,x.2⟩
def PR.toK(p:PR):PK:=⟨p.t,p.q.map tk,p.dp,p.gr⟩
def PL.toK(p:PL):PKL:=⟨p.ts,p.q.map tk,p.dp,p.gr⟩
theorem aPD(t:Tok):(t=g8/\tk t=.cl)\/(t=aP0/\tk t=.tr)\/(t=tO/\tk t=.fa)\/(t=tN/\tk t=.qu)\/(t=aP1/\tk t=.op)\/((¬t=g8/\¬t=aP0/\¬t=tO/\¬t=tN/\¬t=aP1)/\tk t=.wd (pw t)):=by
 unfold tk;by_cases a:t=g8
 ·exact .inl ⟨a,by rw [if_pos a]⟩
 by_cases b:t=aP0
 ·exact .inr (.inl ⟨b,by rw [if_neg a,if_pos b]⟩)
 by_cases c:t=tO
 ·exact .inr (.inr (.inl ⟨c,by rw [if_neg a,if_neg b,if_pos c]⟩))
 by_cases d:t=tN
 ·exact .inr (.inr (.inr (.inl ⟨d,by rw [if_neg a,if_neg b,if_neg c,if_pos d]⟩)))
 by_cases e:t=aP1
 ·exact .inr (.inr (.inr (.inr (.inl ⟨e,by rw [if_neg a,if_neg b,if_neg c,if_neg d,if_pos e]⟩))))
 ·exact .inr (.inr (.inr (.inr (.inr ⟨⟨a,b,c,d,e⟩,by rw [if_neg a,if_neg b,if_neg c,if_neg d,if_neg e]⟩))))
theorem aQ8(f:List Tok->Option PR)(g:List TK->Option PK)(a:∀l,(f l).map PR.toK=g (l.map tk)):∀(k:Nat)(l:List Tok),(IG f k l).map PL.toK=plsK g k (l.map tk)
 | 0,_=>rfl
 | _+1,[]=>rfl
 | k+1,t::r=>by
  have d:=aQ8 f g a k;have i:=a (t::r);rw [I9];by_cases b:t=g8
  ·rw [if_pos b];subst b;rfl
  ·rw [if_neg b]
   have j:tk t≠.cl:=by
    rcases aPD t with⟨h,_⟩ | ⟨_,h⟩ | ⟨_,h⟩ | ⟨_,h⟩ | ⟨_,h⟩ | ⟨_,h⟩
    ·exact absurd h b
    all_goals rw [h];exact fun e=>by cases e
   have e:plsK g (k+1) ((t::r).map tk)=match g (tk t::r.map tk) with
     | none=>none
     | some p=>match plsK g k p.q with
      | none=>none
      | some l=>some ⟨p.t::l.ts,l.q,max p.dp l.dp,p.gr||l.gr⟩:=by
    rw [List.map_cons];show plsK g (k+1) (tk t::r.map tk)=_
    cases c:tk t with
    | cl=>exact absurd c j
    | _=>rfl
   rw [e,<-List.map_cons,<-i]
   cases m:f (t::r) with
   | none=>rfl
   | some p =>
    have:=d p.q;simp only [Option.map_some]
    show Option.map PL.toK (Option.map _ (IG f k p.q))=match plsK g k (p.toK).q with
     | none=>none
     | some l=>some ⟨p.toK.t::l.ts,l.q,max p.toK.dp l.dp,p.toK.gr||l.gr⟩
    rw [show p.toK.q=p.q.map tk from rfl,<-this]
    cases IG f k p.q with
    | none=>rfl
    | some l=>rfl
theorem pdK_of:∀(n:Nat)(l:List Tok),(pd n l).map PR.toK=pdK n (l.map tk)
 | 0,_=>rfl
 | _+1,[]=>rfl
 | n+1,t::r=>by
  have b:=pdK_of n;have a:=aQ8 (pd n) (pdK n) b;rw [List.map_cons];rcases aPD t with⟨h,e⟩ | ⟨h,e⟩ | ⟨h,e⟩ | ⟨h,e⟩ | ⟨h,e⟩ | ⟨⟨c,d,f,g,i⟩,e⟩
  ·rw [e,NR n t r h];rfl
  ·rw [e,QK n t r h];rfl
  ·rw [e,NQ n t r h];rfl
  ·rw [e,H6 n t r h]
   show _=match pdK n (r.map tk) with
    | none=>none
    | some p=>some (PK.mk (.agg [.lit (.string CB),p.t]) p.q (p.dp+1) p.gr)
   rw [<- b r]
   cases pd n r<;>rfl
  ·rw [e,GH n t r h]
   show _=match plsK (pdK n) (r.map tk).length (r.map tk) with
    | none=>none
    | some p=>some (PK.mk (.agg p.ts) p.q (p.dp+1) p.gr)
   rw [List.length_map,<-a r.length r]
   cases IG (pd n) r.length r<;>rfl
  ·rw [e,QJ n t r c d f g i]
   cases pw t<;>rfl
theorem read_of{c:AE}{l:List Tok}{K:List TK}{d:A9}{dp:Nat}{f:PF}{n:Nat}(s:c.length<=300)(e:BX c=some l)(g:l.length=n)(j:l.all BF=true)(k:l.map tk=K)(hp:pdK n K=some ⟨d,[],dp,false⟩)(t:dp<=20)(m:GY (n-1) d=true)(o:BZ (n-1) d=some f):check c=0/\BQ c=some f:=by
 obtain⟨p,b,a⟩:∃p,pd n l=some p/\p.toK=⟨d,[],dp,false⟩:=by
  have:=pdK_of n l;rw [k,hp] at this
  cases h:pd n l with
  | none=>rw [h] at this;cases this
  | some p=>rw [h] at this;exact⟨p,rfl,i_ this⟩
 have i:p.t=d:=congrArg PK.t a;have q:p.q=[]:=by have:p.q.map tk=[]:=congrArg PK.q a;simpa using this
 have u:p.dp=dp:=congrArg PK.dp a;have r:p.gr=false:=congrArg PK.gr a;constructor
 ·unfold check;rw [if_neg (by omega),e];dsimp only;rw [if_neg (by rw [j];decide),g,b];dsimp only;rw [if_neg (by rw [q];exact fun h=>h rfl),if_neg (by omega),if_neg (by rw [r];decide),i,if_pos m]
 ·unfold BQ;rw [e];dsimp only;rw [g,b];dsimp only;rw [i];exact o
theorem aOZ:∀(n:Nat)(a:AE)(c:UInt8)(l:List Tok)(r:AE),a.length<=n->CV c=false->(c==35)=false->BX (a++[c])=some l->BX (a++c::r)=(BX r).map (l++·)
 | n,[],c,l,r,_,g,b,h=>by
  rw [List.nil_append] at h ⊢;by_cases j:blank c=true
  ·rw [rN c [] j,wX] at h;obtain rfl:=i_ h;rw [rN c r j]
   cases BX r<;>rfl
  ·by_cases k:H2 c=true
   ·rw [KX c [] g k,wX] at h;obtain rfl:=i_ h;rw [KX c r g k];rfl
   ·rw [NL c [] (by simpa using j) b g (by simpa using k)] at h
    cases h
 | 0,x::a,c,l,r,p,_,_,_=>by simp at p
 | n+1,x::a,c,l,r,p,g,b,h=>by
  have e:a.length<=n:=by simpa using p
  rw [List.cons_append] at h ⊢;by_cases j:blank x=true
  ·rw [rN x _ j] at h ⊢;exact aOZ n a c l r e g b h
  ·by_cases q:CV x=true
   ·have i:∀s:AE,(a++c::s).takeWhile CV=a.takeWhile CV/\(a++c::s).dropWhile CV=a.dropWhile CV++c::s:=fun s=>by
     clear h p e
     induction a with
     | nil=>simp [List.takeWhile,List.dropWhile,g]
     | cons y a t =>
      by_cases u:CV y=true
      ·simp [List.takeWhile,List.dropWhile,u,t.1,t.2]
      ·simp [List.takeWhile,List.dropWhile,u]
    rw [L9 x _ q,(i []).1,(i []).2] at h;rw [L9 x _ q,(i r).1,(i r).2]
    cases f:BX (a.dropWhile CV++[c]) with
    | none=>rw [f] at h;cases h
    | some o =>
     rw [f] at h;obtain rfl:=i_ h;rw [aOZ n (a.dropWhile CV) c o r (t_ (eQ _ _) e) g b f]
     cases BX r<;>rfl
   ·by_cases v:(x==35)=true
    ·obtain rfl:x=35:=by simpa using v
     cases a with
     | nil =>
      rw [List.nil_append] at h ⊢;by_cases m:(c==116||c==102)=true
      ·exfalso;simp only [Bool.or_eq_true,beq_iff_eq] at m;rcases m with rfl | rfl<;>exact absurd g (by decide)
      ·rw [J3 c _ (by simpa using m)] at h
       cases h
     | cons d a =>
      rw [List.cons_append] at h ⊢;by_cases m:(d==116||d==102)=true
      ·rw [MA d _ m] at h ⊢
       cases f:BX (a++[c]) with
       | none=>rw [f] at h;cases h
       | some o =>
        rw [f] at h;obtain rfl:=i_ h;rw [aOZ n a c o r (by simp at e;omega) g b f]
        cases BX r<;>rfl
      ·rw [J3 d _ (by simpa using m)] at h
       cases h
    ·by_cases k:H2 x=true
     ·rw [KX x _ (by simpa using q) k] at h ⊢
      cases f:BX (a++[c]) with
      | none=>rw [f] at h;cases h
      | some o =>
       rw [f] at h;obtain rfl:=i_ h;rw [aOZ n a c o r e g b f]
       cases BX r<;>rfl
     ·rw [NL x _ (by simpa using j) (by simpa using v) (by simpa using q) (by simpa using k)] at h
      cases h
theorem aQJ{p:AE}(hp:p.all CV=true)(e:p≠[]){c:UInt8}(f:CV c=false)(r:AE):BX (p++c::r)=(BX (c::r)).map (p::·):=by
 cases p with
 | nil=>exact absurd rfl e
 | cons x a =>
  simp only [List.all_cons,Bool.and_eq_true] at hp
  have b:(a++c::r).takeWhile CV=a/\(a++c::r).dropWhile CV=c::r:=by
   have d:=hp.2;clear hp e
   induction a with
   | nil=>simp [f]
   | cons y a g =>simp only [List.all_cons,Bool.and_eq_true] at d;simp [d.1,g d.2]
  rw [List.cons_append,L9 x _ hp.1,b.1,b.2]
end Pl
end
section
open Go.Lib
variable {n:Int}
namespace Pl
theorem aQC{d:Nat}(h:d<10):(UInt8.ofNat (48+d)).toNat=48+d:=by rw [UInt8.toNat_ofNat'];omega
theorem dig_is{d:Nat}(h:d<10):A3 (UInt8.ofNat (48+d))=true:=by unfold A3;rw [aQC h];simp;omega
theorem aQE(u:Nat):decDigits u≠[]/\(decDigits u).all A3=true/\F5 (decDigits u)=u:=by
 induction u using Nat.strongRecOn with
 | _ u b =>
  by_cases h:u<10
  ·rw [decDigits,dif_pos h];refine⟨by simp,by rw [List.all_cons,List.all_nil,Bool.and_true];exact dig_is h,?_⟩;show 10*0+((UInt8.ofNat (48+u)).toNat-48)=u;rw [aQC h];omega
  ·obtain⟨_,c,d⟩:=b (u / 10) (by omega);have a:u % 10<10:=by omega
   rw [decDigits,dif_neg h];refine⟨by simp,by rw [List.all_append,c,List.all_cons,List.all_nil,Bool.and_true,Bool.true_and];exact dig_is a,?_⟩;rw [vR,d,aQC a];omega
theorem dig_inW{c:UInt8}(h:A3 c=true):CV c=true:=by simp [CV,h]
theorem aRJ{l:AE}(h:l.all A3=true):l.all CV=true:=by rw [List.all_eq_true] at h ⊢;exact fun x a=>dig_inW (h x a)
theorem aRI(u:Nat):minus (decDigits u)=false:=by
 obtain⟨d,a,_⟩:=aQE u;unfold minus
 cases b:decDigits u with
 | nil=>exact absurd b d
 | cons c r =>
  rw [b] at a;simp only [List.all_cons,Bool.and_eq_true] at a;have e:=Q2 c a.1;have:(c==45)=false:=by rw [beq_eq_false_iff_ne];rintro rfl;have:(45:UInt8).toNat=45:=rfl;omega
  simp [this]
theorem itoa_tok(n:Int):(itoa n).all CV=true/\itoa n≠[]/\isNum (itoa n)=true/\F3 (itoa n)=n/\F5 (EY (itoa n))=n.natAbs:=by
 unfold itoa Lib.itoa;by_cases h:n<0
 ·rw [if_pos h];obtain⟨e,b,c⟩:=aQE n.natAbs;have d:minus (45::decDigits n.natAbs)=true:=by unfold minus;have:0<(decDigits n.natAbs).length:=List.length_pos_iff.2 e;simp [this]
  have a:EY (45::decDigits n.natAbs)=decDigits n.natAbs:=by unfold EY;rw [if_pos d];rfl
  refine⟨by rw [List.all_cons,aRJ b];rfl,by simp,by unfold isNum;rw [a];exact b,?_,by rw [a];exact c⟩;unfold F3;rw [if_pos d,a,c];omega
 ·rw [if_neg h];obtain⟨e,b,c⟩:=aQE n.toNat;have d:=aRI n.toNat;have a:EY (decDigits n.toNat)=decDigits n.toNat:=by unfold EY;rw [if_neg (by rw [d];decide)]
  refine⟨aRJ b,e,by unfold isNum;rw [a];exact b,?_,by rw [a,c];omega⟩;unfold F3;rw [if_neg (by rw [d];decide),a,c];omega
theorem itoa_tk(h:n.natAbs<=CG):tk (itoa n)=.wd (some (.lit (.int .i64 n),false)):=by
 obtain⟨b,j,c,d,f⟩:=itoa_tok n;have g:pw (itoa n)=some (.lit (.int .i64 n),false):=by unfold pw ER;rw [if_pos c,d,f,decide_eq_false (by omega)]
 have a:∀t:Tok,t.all CV=false->¬itoa n=t:=fun t i e=>by rw [e,i] at b;cases b
 rcases aPD (itoa n) with⟨h,_⟩ | ⟨h,_⟩ | ⟨h,_⟩ | ⟨h,_⟩ | ⟨h,_⟩ | ⟨_,h⟩
 ·exact absurd h (a _ (by decide))
 ·exact absurd h (a _ (by decide))
 ·exact absurd h (a _ (by decide))
 ·exact absurd h (a _ (by decide))
 ·exact absurd h (a _ (by decide))
 ·rw [h,g]
theorem aRE(n:Int):BF (itoa n)=true:=by unfold BF;rw [(itoa_tok n).2.2.1];simp
theorem aQD:∀(k u:Nat),u<10^(k+1)->(decDigits u).length<=k+1
 | 0,u,h=>by rw [decDigits,dif_pos (by simpa using h)];simp
 | k+1,u,h=>by
  rw [decDigits];split
  ·simp
  ·rw [a_];have:=aQD k (u / 10) (by rw [Nat.pow_succ] at h;omega);simp;omega
theorem itoa_len(h:n.natAbs<=CG):(itoa n).length<=14:=by
 unfold itoa Lib.itoa;have a:n.natAbs<10^(12+1):=Nat.lt_of_le_of_lt h (by decide);by_cases b:n<0
 ·rw [if_pos b,c_];have:=aQD 12 n.natAbs a;omega
 ·rw [if_neg b];have e:n.toNat=n.natAbs:=by omega
  rw [e];have:=aQD 12 n.natAbs a;omega
theorem itoa_cut(h:n.natAbs<=CG):cut (itoa n)=itoa n:=by unfold cut;rw [if_neg (by have:=itoa_len h;omega)]
theorem aRK{a:AE}{c:UInt8}{b:List Tok}(g:BX (a++[c])=some b)(h:CV c=false)(e:(c==35)=false)(n:Int){d:UInt8}(i:CV d=false){r:AE}{f:List Tok}(j:BX (d::r)=some f):BX (a++c::(itoa n++d::r))=some (b++itoa n::f):=by rw [aOZ a.length a c b _ n_ h e g,aQJ (itoa_tok n).1 (itoa_tok n).2.1 i,j];rfl
end Pl
end
section
variable {ov:Bool}
namespace Pl
inductive PA where
 | ar (n:Int) (rest:List CW)
 | dp (a:PV) (rest:List CW)
def aQ7(S:PS):Option PA:=match S.form,S.AB with
 | none,fr::rest =>
  if fr.form.k=.call then
   if fr.pos=fr.form.ks.length then match fr.B8++[S.val] with
    | [.AZ s,.num x,.num y]=>if s=BH then some (.ar (x+y) rest) else if s=A4 then some (.ar (x-y) rest) else if s=BA then some (.ar (x*y) rest) else none
    | [.AZ s,a]=>if s=A7 then some (.dp a rest) else none
    | _=>none
   else none
  else none
 | _,_=>none
def aQ4(ov:Bool)(W:PW)(S:PS):SR×List Prop:=match aQ7 S with
 | some (.ar n rest)=>if ov then(⟨11,W,{S with AB:=rest}⟩,[¬n.natAbs<=CG]) else(⟨0,W,({S with AB:=rest}:PS).A1 (.num n)⟩,[n.natAbs<=CG])
 | some (.dp a rest)=>(⟨0,{W with out:=W.out++cut (text W.pairs a)},({S with AB:=rest}:PS).A1 .nothing⟩,[W.out.length+(cut (text W.pairs a)).length<=1000])
 | none=>(step W S,[])
def aQA(ov:Bool):Nat->PW->PS->SR×List Prop
 | 0,W,S=>if S.ended then(⟨0,W,S⟩,[]) else(⟨7,W,S⟩,[])
 | n+1,W,S=>if S.ended then(⟨0,W,S⟩,[]) else
  match aQ4 ov W S with
  | (r,l)=>if r.e=0 then match aQA ov n r.W r.S with
    | (q,m)=>(q,l++m)
   else(r,l)
theorem aQF{W:PW}{S:PS}(h:∀p∈(aQ4 ov W S).2,p):step W S=(aQ4 ov W S).1:=by
 unfold aQ4 at h ⊢
 cases b:aQ7 S with
 | none=>rfl
 | some a =>
  rw [b] at h;unfold aQ7 at b;obtain⟨m,k,i,j⟩:=S
  cases m with
  | some f=>simp at b
  | none =>
   cases j with
   | nil=>simp at b
   | cons u d =>
    dsimp only at b;split at b
    ·rename_i w;split at b
     ·rename_i n
      have r:step W ⟨none,k,i,u::d⟩=match u.B8++[i] with
        | []=>⟨9,W,⟨none,k,i,d⟩⟩
        | g::o=>apply W ⟨none,k,i,d⟩ g o:=by
       unfold step taken;dsimp only;rw [w];dsimp only;rw [if_pos n];rfl
      rw [r];split at b
      ·rename_i s x y t;rw [t];dsimp only
       have z:¬(PV.AZ s=.AZ AU)\/s=AU:=by
        by_cases e:s=AU
        ·exact .inr e
        ·exact .inl (fun q=>e (by injection q))
       split at b
       ·rename_i l;obtain rfl:=i_ b;subst l
        cases ov with
        | true =>have c:¬(x+y).natAbs<=CG:=h _ (by simp);show(if(x+y).natAbs<=CG then _ else _)=_;rw [if_neg c];rfl
        | false =>have c:(x+y).natAbs<=CG:=h _ (by simp);show(if(x+y).natAbs<=CG then _ else _)=_;rw [if_pos c];rfl
       ·split at b
        ·rename_i l;obtain rfl:=i_ b;subst l
         cases ov with
         | true =>have c:¬(x-y).natAbs<=CG:=h _ (by simp);show(if(x-y).natAbs<=CG then _ else _)=_;rw [if_neg c];rfl
         | false =>have c:(x-y).natAbs<=CG:=h _ (by simp);show(if(x-y).natAbs<=CG then _ else _)=_;rw [if_pos c];rfl
        ·split at b
         ·rename_i l;obtain rfl:=i_ b;subst l
          cases ov with
          | true =>have c:¬(x*y).natAbs<=CG:=h _ (by simp);show(if(x*y).natAbs<=CG then _ else _)=_;rw [if_neg c];rfl
          | false =>have c:(x*y).natAbs<=CG:=h _ (by simp);show(if(x*y).natAbs<=CG then _ else _)=_;rw [if_pos c];rfl
         ·cases b
      ·rename_i s v t;rw [t];dsimp only;split at b
       ·rename_i l;obtain rfl:=i_ b;subst l;have c:W.out.length+(cut (text W.pairs v)).length<=1000:=h _ (by simp);show(if W.out.length+(cut (text W.pairs v)).length<=1000 then _ else _)=_;rw [if_pos c]
       ·cases b
      ·cases b
     ·cases b
    ·cases b
theorem aQI{ov:Bool}:∀(n:Nat)(W:PW)(S:PS),(∀p∈(aQA ov n W S).2,p)->A8 n W S=(aQA ov n W S).1
 | 0,W,S,_=>by unfold A8 aQA;split<;>rfl
 | n+1,W,S,h=>by
  unfold aQA at h ⊢;unfold A8;split
  ·rfl
  ·rename_i e;rw [if_neg e] at h
   cases c:aQ4 ov W S with
   | mk r l =>
    rw [c] at h;dsimp only at h ⊢;by_cases b:r.e=0
    ·rw [if_pos b] at h;have a:step W S=r:=by have:=aQF (ov:=ov) (W:=W) (S:=S) (by rw [c];exact fun p d=>h p (by dsimp only;exact List.mem_append_left _ d));rw [c] at this;exact this
     rw [a,if_pos b,if_pos b];exact aQI n r.W r.S (fun p d=>h p (List.mem_append_right _ d))
    ·rw [if_neg b] at h;have a:step W S=r:=by have:=aQF (ov:=ov) (W:=W) (S:=S) (by rw [c];exact fun p d=>h p d);rw [c] at this;exact this
     rw [a,if_neg b,if_neg b]
def sesT(ov:Bool):PW->List (PF×Nat)->(PW×List PO)×List Prop
 | W,[]=>((W,[]),[])
 | W,(f,z)::r=>match aQA ov z (AR W f) (AV W f) with
  | (q,l)=>match sesT ov q.W r with
   | ((W2,os),m)=>((W2,told q::os),l++m)
def Reads(i:AE×Int)(f:PF×Nat):Prop:=over i.2=false/\check i.1=0/\BQ i.1=some f.1/\i.2.toNat=f.2
def ReadsL:List (AE×Int)->List (PF×Nat)->Prop
 | [],[]=>True
 | i::r,f::s=>Reads i f/\ReadsL r s
 | _,_=>False
theorem sesT_eq{ov:Bool}:∀(b:List (AE×Int)) (c:List (PF×Nat)) (W:PW),ReadsL b c->(∀p∈(sesT ov W c).2,p)->AF W b=(sesT ov W c).1
 | [],[],_,_,_=>rfl
 | i::b,(f,z)::c,W,e,h=>by
  obtain⟨⟨s,t,n,o⟩,e⟩:=e;dsimp only at n o;have d:answer W i=((A8 z (AR W f) (AV W f)).W,told (A8 z (AR W f) (AV W f))):=by unfold answer;rw [if_neg (by simp [s]),if_neg (by simp [t]),n,o]
  unfold sesT at h ⊢
  cases g:aQA ov z (AR W f) (AV W f) with
  | mk q l =>
   rw [g] at h;dsimp only at h ⊢
   cases j:sesT ov q.W c with
   | mk a m =>
    obtain⟨v,w⟩:=a;rw [j] at h;dsimp only at h ⊢;have u:A8 z (AR W f) (AV W f)=q:=by have:=aQI (ov:=ov) z (AR W f) (AV W f) (by rw [g];exact fun p k=>h p (List.mem_append_left _ k));rw [g] at this;exact this
    have r:=sesT_eq b c q.W e (by rw [j];exact fun p k=>h p (List.mem_append_right _ k));rw [j] at r;simp only [AF,d,u,r]
end Pl
namespace Pl
def segT:List (AE×Int)->AE->AE
 | [],z=>z
 | (a,n)::r,z=>a++(itoa n++segT r z)
def endOk(a:AE):Bool:=match a.getLast? with
 | some c=>!CV c&&!(c==35)
 | none=>false
def aQ2(a:AE):Bool:=match a.head? with
 | some c=>!CV c
 | none=>false
def aO0(a:AE):List Tok:=(BX a).getD []
def aPF(a:AE):Bool:=(BX a).isSome&&(aO0 a).all BF
def segC:List (AE×Int)->AE->Bool
 | [],z=>aPF z
 | (a,_)::r,z=>aPF a&&endOk a&&(match r with
  | []=>aQ2 z
  | (b,_)::_=>aQ2 b)&&segC r z
def segL:List (AE×Int)->AE->List Tok
 | [],z=>aO0 z
 | (a,n)::r,z=>aO0 a++itoa n::segL r z
def aQM:List (AE×Int)->AE->List TK
 | [],z=>(aO0 z).map tk
 | (a,n)::r,z=>(aO0 a).map tk++.wd (some (.lit (.int .i64 n),false))::aQM r z
def segN:List (AE×Int)->AE->Nat
 | [],z=>z.length
 | (a,_)::r,z=>a.length+14+segN r z
theorem aPB{a:AE}(h:aPF a=true):BX a=some (aO0 a)/\(aO0 a).all BF=true:=by
 unfold aPF at h;simp only [Bool.and_eq_true] at h;refine⟨?_,h.2⟩;unfold aO0
 cases b:BX a with
 | none=>rw [b] at h;cases h.1
 | some l=>rfl
theorem seg_beg{l:List (AE×Int)}{z:AE}(h:(match l with
  | []=>aQ2 z
  | (b,_)::_=>aQ2 b)=true):∃d r,segT l z=d::r/\CV d=false:=by
 have c:∀{a:AE} (s:AE),aQ2 a=true->∃d r,a++s=d::r/\CV d=false:=fun {a} s e=>by
  cases a with
  | nil=>cases e
  | cons d r=>exact⟨d,r++s,rfl,by simpa [aQ2] using e⟩
 cases l with
 | nil =>obtain⟨d,r,f,g⟩:=c [] h;exact⟨d,r,by rw [List.append_nil] at f;exact f,g⟩
 | cons x l=>exact c _ h
theorem aQH:∀(l:List (AE×Int)) (z:AE),segC l z=true->BX (segT l z)=some (segL l z)/\(segL l z).all BF=true
 | [],z,h=>aPB h
 | (a,n)::r,z,h=>by
  simp only [segC,Bool.and_eq_true] at h;obtain⟨⟨⟨o,i⟩,p⟩,q⟩:=h;obtain⟨j,t⟩:=aPB o;obtain⟨k,u⟩:=aQH r z q;obtain⟨d,s,e,v⟩:=seg_beg p;have f:a≠[]:=fun e=>by rw [e] at i;cases i
  obtain⟨b,c,g⟩:∃b c,a=b++[c]:=⟨a.dropLast,a.getLast f,(List.dropLast_concat_getLast f).symm⟩
  have m:CV c=false/\(c==35)=false:=by rw [g] at i;simpa [endOk] using i
  refine⟨?_,by simp only [segL,List.all_append,List.all_cons,t,u,aRE,Bool.and_self]⟩;show BX (a++(itoa n++segT r z))=some (aO0 a++itoa n::segL r z);rw [e] at k ⊢;rw [g] at j ⊢;rw [List.append_assoc,List.singleton_append];exact aRK j m.1 m.2 n v k
theorem aPJ:∀(l:List (AE×Int)) (z:AE),(∀x∈l,x.2.natAbs<=CG)->(segL l z).map tk=aQM l z
 | [],_,_=>rfl
 | (a,n)::r,z,h=>by simp only [segL,aQM,List.map_append,List.map_cons];rw [itoa_tk (h (a,n) (by simp)),aPJ r z (fun x b=>h x (List.mem_cons_of_mem _ b))]
theorem aQ5:∀(l:List (AE×Int)) (z:AE),(∀x∈l,x.2.natAbs<=CG)->(segT l z).length<=segN l z
 | [],_,_=>n_
 | (a,n)::r,z,h=>by have b:=itoa_len (h (a,n) (by simp));have d:=aQ5 r z (fun x c=>h x (List.mem_cons_of_mem _ c));simp only [segT,segN,a_];dsimp only at b;omega
def okK(K:List TK):Bool:=match pdK K.length K with
 | some p=>p.q.isEmpty&&(decide (p.dp<=20)&&(!p.gr&&GY (K.length-1) p.t))
 | none=>false
def frm(K:List TK):Option PF:=match pdK K.length K with
 | some p=>BZ (K.length-1) p.t
 | none=>none
theorem aRM{l:List (AE×Int)}{z:AE}{f:PF}(s:segC l z=true)(g:∀x∈l,x.2.natAbs<=CG)(t:segN l z<=300)(a:okK (aQM l z)=true)(b:frm (aQM l z)=some f){k:Int}{m:Nat}(u:over k=false)(v:k.toNat=m):Reads (segT l z,k) (f,m):=by
 obtain⟨w,y⟩:=aQH l z s;have h:=aPJ l z g;have A:=aQ5 l z g;have c:(aQM l z).length=(segL l z).length:=by rw [<- h,List.length_map]
 unfold okK at a;unfold frm at b
 cases e:pdK (aQM l z).length (aQM l z) with
 | none=>rw [e] at a;cases a
 | some p =>rw [e] at a b;simp only [Bool.and_eq_true,decide_eq_true_eq,List.isEmpty_iff,Bool.not_eq_true'] at a;dsimp only at b;obtain⟨d,q,D,E⟩:=p;obtain⟨i,j,o,r⟩:=a;dsimp only at i j o r b;subst i o;obtain⟨B,C⟩:=read_of (n:=(aQM l z).length) (t_ A t) w c.symm y h e j r b;exact⟨u,B,C,v⟩
abbrev Seg:=List (AE×Int)×AE
def segI(s:Seg):AE×Int:=(segT s.1 s.2,2000)
def nilF:PF:=.mk .const [] .nil .nothing [] []
def segF(s:Seg):PF×Nat:=((frm (aQM s.1 s.2)).getD nilF,2000)
def segG(s:Seg):Bool:=segC s.1 s.2&&(Nat.ble (segN s.1 s.2) 300&&(okK (aQM s.1 s.2)&&(frm (aQM s.1 s.2)).isSome))
theorem seg_one{s:Seg}(h:segG s=true)(b:∀x∈s.1,x.2.natAbs<=CG):Reads (segI s) (segF s):=by
 unfold segG at h;simp only [Bool.and_eq_true] at h;obtain⟨c,d,g,i⟩:=h;obtain⟨f,a⟩:=Option.isSome_iff_exists.1 i;have e:(frm (aQM s.1 s.2)).getD nilF=f:=by rw [a];rfl
 unfold segI segF;rw [e];exact aRM c b (Nat.le_of_ble_eq_true d) g a rfl rfl
theorem seg_all:∀(l:List Seg),l.all segG=true->(∀s∈l,∀x∈s.1,x.2.natAbs<=CG)->ReadsL (l.map segI) (l.map segF)
 | [],_,_=>trivial
 | s::l,h,a=>by simp only [List.all_cons,Bool.and_eq_true] at h;exact⟨seg_one h.1 (a s (by simp)),seg_all l h.2 (fun x b=>a x (List.mem_cons_of_mem _ b))⟩
end Pl
namespace Pl
def lstD:AE:=[40,100,101,102,105,110,101,32,108,32,39,40,41,41]
def lstC(a:Int):Seg:=([([40,100,101,102,105,110,101,32,108,32,40,99,111,110,115,32],a)],[32,108,41,41])
def lstE:List AE:=[[108],[40,98,101,103,105,110,32,40,100,105,115,112,108,97,121,32,108,41,32,40,101,113,63,32,108,32,108,41,41],[40,108,101,116,32,40,40,99,97,114,32,99,100,114,41,41,32,40,105,102,32,40,112,97,105,114,63,32,108,41,32,40,99,97,114,32,108,41,32,39,110,111,110,101,41,41],[40,101,113,63,32,40,99,111,110,115,32,49,32,108,41,32,40,99,111,110,115,32,49,32,108,41,41],[40,105,102,32,40,110,117,108,108,63,32,108,41,32,48,32,40,99,97,114,32,108,41,41]]
def lstS(m:List Int):List Seg:=([],lstD)::(m.map lstC++lstE.map (fun z=>([],z)))
def tlT:List Int->AE
 | []=>[41]
 | a::r=>32::(itoa a++tlT r)
def inT:List Int->AE
 | []=>[41]
 | a::r=>itoa a++tlT r
def lsT(l:List Int):AE:=40::inT l
def rsT:List Int->AE
 | []=>[110,111,110,101]
 | _::r=>lsT r
def hdT:List Int->AE
 | []=>itoa 0
 | a::_=>itoa a
def lstO(l:List Int):List PO:=List.replicate (l.length+1) ⟨0,[],[]⟩++[⟨0,[],cut (lsT l)⟩,⟨0,[]++cut (lsT l),[35,116]⟩,⟨0,[],cut (rsT l)⟩,⟨0,[],[35,102]⟩,⟨0,[],cut (hdT l)⟩]
def LstQ(l:List Int):Prop:=(lstS l.reverse).all segG=true/\(sesT false AW ((lstS l.reverse).map segF)).1.2=lstO l/\(sesT false AW ((lstS l.reverse).map segF)).2=[0+(cut (lsT l)).length<=1000]
theorem itoa_zero:itoa 0=[48]:=by unfold itoa Lib.itoa;rw [if_neg (by decide),Lib.decDigits,dif_pos (by decide)];rfl
theorem lst_0:LstQ []:=⟨by kernel_rfl,by kernel_rfl,by kernel_rfl⟩
theorem lst_1(a:Int):LstQ [a]:=⟨by kernel_rfl,by kernel_rfl,by kernel_rfl⟩
theorem lst_2(a b:Int):LstQ [a,b]:=⟨by kernel_rfl,by kernel_rfl,by kernel_rfl⟩
theorem lst_3(a b c:Int):LstQ [a,b,c]:=⟨by kernel_rfl,by kernel_rfl,by kernel_rfl⟩
theorem lst_4(a b c d:Int):LstQ [a,b,c,d]:=⟨by kernel_rfl,by kernel_rfl,by kernel_rfl⟩
theorem lst_5(a b c d e:Int):LstQ [a,b,c,d,e]:=⟨by kernel_rfl,by kernel_rfl,by kernel_rfl⟩
theorem lst_6(a b c d e f:Int):LstQ [a,b,c,d,e,f]:=⟨by kernel_rfl,by kernel_rfl,by kernel_rfl⟩
theorem lst_7(a b c d e f g:Int):LstQ [a,b,c,d,e,f,g]:=⟨by kernel_rfl,by kernel_rfl,by kernel_rfl⟩
theorem lst_8(a b c d e f g h:Int):LstQ [a,b,c,d,e,f,g,h]:=⟨by kernel_rfl,by kernel_rfl,by kernel_rfl⟩
theorem lst_9(a b c d e f g h i:Int):LstQ [a,b,c,d,e,f,g,h,i]:=⟨by kernel_rfl,by kernel_rfl,by kernel_rfl⟩
theorem lst_10(a b c d e f g h i j:Int):LstQ [a,b,c,d,e,f,g,h,i,j]:=⟨by kernel_rfl,by kernel_rfl,by kernel_rfl⟩
theorem lst_11(b c d e f g h i j k a:Int):LstQ [b,c,d,e,f,g,h,i,j,k,a]:=⟨by kernel_rfl,by kernel_rfl,by kernel_rfl⟩
theorem lst_12(c d e f g h i j k l a b:Int):LstQ [c,d,e,f,g,h,i,j,k,l,a,b]:=⟨by kernel_rfl,by kernel_rfl,by kernel_rfl⟩
theorem lst_q:∀(l:List Int),l.length<=12->LstQ l
 | [],_=>lst_0
 | [a],_=>lst_1 _
 | [a,b],_=>lst_2 _ _
 | [a,b,c],_=>lst_3 _ _ _
 | [a,b,c,d],_=>lst_4 _ _ _ _
 | [a,b,c,d,e],_=>lst_5 _ _ _ _ _
 | [a,b,c,d,e,f],_=>lst_6 _ _ _ _ _ _
 | [a,b,c,d,e,f,g],_=>lst_7 _ _ _ _ _ _ _
 | [a,b,c,d,e,f,g,i],_=>lst_8 _ _ _ _ _ _ _ _
 | [a,b,c,d,e,f,g,i,j],_=>lst_9 _ _ _ _ _ _ _ _ _
 | [a,b,c,d,e,f,g,i,j,m],_=>lst_10 _ _ _ _ _ _ _ _ _ _
 | [a,b,c,d,e,f,g,i,j,m,k],_=>lst_11 _ _ _ _ _ _ _ _ _ _ _
 | [a,b,c,d,e,f,g,i,j,m,k,n],_=>lst_12 _ _ _ _ _ _ _ _ _ _ _ _
 | _::_::_::_::_::_::_::_::_::_::_::_::_::_,h=>absurd h (by simp)
end Pl
end
end Go.Proofs.YtieooapcfpimlaaGreatDoor
