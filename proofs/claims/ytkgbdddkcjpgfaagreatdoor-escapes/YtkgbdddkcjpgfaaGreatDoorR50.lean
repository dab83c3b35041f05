import Derived.Test.YtkgbdddkcjpgfaaGreatDoorR23
namespace Go.Proofs.YtkgbdddkcjpgfaaGreatDoor
section
namespace Pl
inductive TK where
 | cl
 | tr
 | fa
 | qu
 | op
 | wd (x:Option (A9×Bool))
def tk(t:Tok):TK:=if t=g8 then .cl else if t=aP0 then .tr else if t=tO then .fa else if t=tN then .qu else if t=aP1 then .op else .wd (pw t)
structure PK where
 t:A9
 q:List TK
 dp:Nat
 gr:Bool
structure PKL where
 ts:List A9
 q:List TK
 dp:Nat
 gr:Bool
def plsK(f:List TK->Option PK):Nat->List TK->Option PKL
 | 0,_=>none
 | _+1,[]=>none
 | k+1,t::r=>match t with
  | .cl=>some ⟨[],r,0,false⟩
  | _=>match f (t::r) with
   | none=>none
   | some p=>match plsK f k p.q with
    | none=>none
    | some l=>some ⟨p.t::l.ts,l.q,max p.dp l.dp,p.gr||l.gr⟩
def pdK:Nat->List TK->Option PK
 | 0,_=>none
 | _+1,[]=>none
 | n+1,t::r=>match t with
  | .cl=>none
  | .tr=>some ⟨.lit (.bool true),r,0,false⟩
  | .fa=>some ⟨.lit (.bool false),r,0,false⟩
  | .qu=>match pdK n r with
   | none=>none
   | some p=>some ⟨.agg [.lit (.string CB),p.t],p.q,p.dp+1,p.gr⟩
  | .op=>match plsK (pdK n) r.length r with
   | none=>none
   | some p=>some ⟨.agg p.ts,p.q,p.dp+1,p.gr⟩
  | .wd none=>none
  | .wd (some x)=>some ⟨x.1,r,0,x.2⟩
def PR.toK(p:PR):PK:=⟨p.t,p.q.map tk,p.dp,p.gr⟩
def PL.toK(p:PL):PKL:=⟨p.ts,p.q.map tk,p.dp,p.gr⟩
theorem aPD(t:Tok):(t=g8/\tk t=.cl)\/(t=aP0/\tk t=.tr)\/(t=tO/\tk t=.fa)\/(t=tN/\tk t=.qu)\/(t=aP1/\tk t=.op)\/((¬t=g8/\¬t=aP0/\¬t=tO/\¬t=tN/\¬t=aP1)/\tk t=.wd (pw t)):=by
 unfold tk;by_cases a:t=g8
 ·exact .inl ⟨a,by rw [if_pos a]⟩
 by_cases b:t=aP0
 ·exact .inr (.inl ⟨b,by rw [if_neg a,if_pos b]⟩)
 by_cases c:t=tO
 ·exact .inr (.inr (.inl ⟨c,by rw [if_neg a,if_neg b,if_pos c]⟩))
 by_cases d:t=tN
 ·exact .inr (.inr (.inr (.inl ⟨d,by rw [if_neg a,if_neg b,if_neg c,if_pos d]⟩)))
 by_cases e:t=aP1
 ·exact .inr (.inr (.inr (.inr (.inl ⟨e,by rw [if_neg a,if_neg b,if_neg c,if_neg d,if_pos e]⟩))))
 ·exact .inr (.inr (.inr (.inr (.inr ⟨⟨a,b,c,d,e⟩,by rw [if_neg a,if_neg b,if_neg c,if_neg d,if_neg e]⟩))))
theorem aQ8(f:List Tok->Option PR)(g:List TK->Option PK)(a:∀l,(f l).map PR.toK=g (l.map tk)):∀(k:Nat)(l:List Tok),(IG f k l).map PL.toK=plsK g k (l.map tk)
 | 0,_=>rfl
 | _+1,[]=>rfl
 | k+1,t::r=>by
  have d:=aQ8 f g a k;have i:=a (t::r);rw [I9];by_cases b:t=g8
  ·rw [if_pos b];subst b;rfl
  ·rw [if_neg b]
   have j:tk t≠.cl:=by
    rcases aPD t with⟨h,_⟩ | ⟨_,h⟩ | ⟨_,h⟩ | ⟨_,h⟩ | ⟨_,h⟩ | ⟨_,h⟩
    ·exact absurd h b
    all_goals rw [h];exact fun e=>by cases e
   have e:plsK g (k+1) ((t::r).map tk)=match g (tk t::r.map tk) with
     | none=>none
     | some p=>match plsK g k p.q with
      | none=>none
      | some l=>some ⟨p.t::l.ts,l.q,max p.dp l.dp,p.gr||l.gr⟩:=by
    rw [List.map_cons];show plsK g (k+1) (tk t::r.map tk)=_
    cases c:tk t with
    | cl=>exact absurd c j
    | _=>rfl
   rw [e,<-List.map_cons,<-i]
   cases m:f (t::r) with
   | none=>rfl
   | some p =>
    have:=d p.q;simp only [Option.map_some]
    show Option.map PL.toK (Option.map _ (IG f k p.q))=match plsK g k (p.toK).q with
     | none=>none
     | some l=>some ⟨p.toK.t::l.ts,l.q,max p.toK.dp l.dp,p.toK.gr||l.gr⟩
    rw [show p.toK.q=p.q.map tk from rfl,<-this]
    cases IG f k p.q with
    | none=>rfl
    | some l=>rfl
theorem pdK_of:∀(n:Nat)(l:List Tok),(pd n l).map PR.toK=pdK n (l.map tk)
 | 0,_=>rfl
 | _+1,[]=>rfl
 | n+1,t::r=>by
  have b:=pdK_of n;have a:=aQ8 (pd n) (pdK n) b;rw [List.map_cons];rcases aPD t with⟨h,e⟩ | ⟨h,e⟩ | ⟨h,e⟩ | ⟨h,e⟩ | ⟨h,e⟩ | ⟨⟨c,d,f,g,i⟩,e⟩
  ·rw [e,NR n t r h];rfl
  ·rw [e,QK n t r h];rfl
  ·rw [e,NQ n t r h];rfl
  ·rw [e,H6 n t r h]
   show _=match pdK n (r.map tk) with
    | none=>none
    | some p=>some (PK.mk (.agg [.lit (.string CB),p.t]) p.q (p.dp+1) p.gr)
   rw [<- b r]
   cases pd n r<;>rfl
  ·rw [e,GH n t r h]
   show _=match plsK (pdK n) (r.map tk).length (r.map tk) with
    | none=>none
    | some p=>some (PK.mk (.agg p.ts) p.q (p.dp+1) p.gr)
   rw [List.length_map,<-a r.length r]
   cases IG (pd n) r.length r<;>rfl
  ·rw [e,QJ n t r c d f g i]
   cases pw t<;>rfl
theorem read_of{c:AE}{l:List Tok}{K:List TK}{d:A9}{dp:Nat}{f:PF}{n:Nat}(s:c.length<=300)(e:BX c=some l)(g:l.length=n)(j:l.all BF=true)(k:l.map tk=K)(hp:pdK n K=some ⟨d,[],dp,false⟩)(t:dp<=20)(m:GY (n-1) d=true)(o:BZ (n-1) d=some f):check c=0/\BQ c=some f:=by
 obtain⟨p,b,a⟩:∃p,pd n l=some p/\p.toK=⟨d,[],dp,false⟩:=by
  have:=pdK_of n l;rw [k,hp] at this
  cases h:pd n l with
  | none=>rw [h] at this;cases this
  | some p=>rw [h] at this;exact⟨p,rfl,i_ this⟩
 have i:p.t=d:=congrArg PK.t a;have q:p.q=[]:=by have:p.q.map tk=[]:=congrArg PK.q a;simpa using this
 have u:p.dp=dp:=congrArg PK.dp a;have r:p.gr=false:=congrArg PK.gr a;constructor
 ·unfold check;rw [if_neg (by omega),e];dsimp only;rw [if_neg (by rw [j];decide),g,b];dsimp only;rw [if_neg (by rw [q];exact fun h=>h rfl),if_neg (by omega),if_neg (by rw [r];decide),i,if_pos m]
 ·unfold BQ;rw [e];dsimp only;rw [g,b];dsimp only;rw [i];exact o
theorem aOZ:∀(n:Nat)(a:AE)(c:UInt8)(l:List Tok)(r:AE),a.length<=n->CV c=false->(c==35)=false->BX (a++[c])=some l->BX (a++c::r)=(BX r).map (l++·)
 | n,[],c,l,r,_,g,b,h=>by
  rw [List.nil_append] at h ⊢;by_cases j:blank c=true
  ·rw [rN c [] j,wX] at h;obtain rfl:=i_ h;rw [rN c r j]
   cases BX r<;>rfl
  ·by_cases k:H2 c=true
   ·rw [KX c [] g k,wX] at h;obtain rfl:=i_ h;rw [KX c r g k];rfl
   ·rw [NL c [] (by simpa using j) b g (by simpa using k)] at h
    cases h
 | 0,x::a,c,l,r,p,_,_,_=>by simp at p
 | n+1,x::a,c,l,r,p,g,b,h=>by
  have e:a.length<=n:=by simpa using p
  rw [List.cons_append] at h ⊢;by_cases j:blank x=true
  ·rw [rN x _ j] at h ⊢;exact aOZ n a c l r e g b h
  ·by_cases q:CV x=true
   ·have i:∀s:AE,(a++c::s).takeWhile CV=a.takeWhile CV/\(a++c::s).dropWhile CV=a.dropWhile CV++c::s:=fun s=>by
     clear h p e
     induction a with
     | nil=>simp [List.takeWhile,List.dropWhile,g]
     | cons y a t =>
      by_cases u:CV y=true
      ·simp [List.takeWhile,List.dropWhile,u,t.1,t.2]
      ·simp [List.takeWhile,List.dropWhile,u]
    rw [L9 x _ q,(i []).1,(i []).2] at h;rw [L9 x _ q,(i r).1,(i r).2]
    cases f:BX (a.dropWhile CV++[c]) with
    | none=>rw [f] at h;cases h
    | some o =>
     rw [f] at h;obtain rfl:=i_ h;rw [aOZ n (a.dropWhile CV) c o r (t_ (eQ _ _) e) g b f]
     cases BX r<;>rfl
   ·by_cases v:(x==35)=true
    ·obtain rfl:x=35:=by simpa using v
     cases a with
     | nil =>
      rw [List.nil_append] at h ⊢;by_cases m:(c==116||c==102)=true
      ·exfalso;simp only [Bool.or_eq_true,beq_iff_eq] at m;rcases m with rfl | rfl<;>exact absurd g (by decide)
      ·rw [J3 c _ (by simpa using m)] at h
       cases h
     | cons d a =>
      rw [List.cons_append] at h ⊢;by_cases m:(d==116||d==102)=true
      ·rw [MA d _ m] at h ⊢
       cases f:BX (a++[c]) with
       | none=>rw [f] at h;cases h
       | some o =>
        rw [f] at h;obtain rfl:=i_ h;rw [aOZ n a c o r (by simp at e;omega) g b f]
        cases BX r<;>rfl
      ·rw [J3 d _ (by simpa using m)] at h
       cases h
    ·by_cases k:H2 x=true
     ·rw [KX x _ (by simpa using q) k] at h ⊢
      cases f:BX (a++[c]) with
      | none=>rw [f] at h;cases h
      | some o =>
       rw [f] at h;obtain rfl:=i_ h;rw [aOZ n a c o r e g b f]
       cases BX r<;>rfl
     ·rw [NL x _ (by simpa using j) (by simpa using v) (by simpa using q) (by simpa using k)] at h
      cases h
theorem aQJ{p:AE}(hp:p.all CV=true)(e:p≠[]){c:UInt8}(f:CV c=false)(r:AE):BX (p++c::r)=(BX (c::r)).map (p::·):=by
 cases p with
 | nil=>exact absurd rfl e
 | cons x a =>
  simp only [List.all_cons,Bool.and_eq_true] at hp
  have b:(a++c::r).takeWhile CV=a/\(a++c::r).dropWhile CV=c::r:=by
   have d:=hp.2;clear hp e
   induction a with
   | nil=>simp [f]
   | cons y a g =>simp only [List.all_cons,Bool.and_eq_true] at d;simp [d.1,g d.2]
  rw [List.cons_append,L9 x _ hp.1,b.1,b.2]
end Pl
end
section
open Go.Lib
variable {n:Int}
namespace Pl
theorem aQC{d:Nat}(h:d<10):(UInt8.ofNat (48+d)).toNat=48+d:=by rw [UInt8.toNat_ofNat'];omega
theorem dig_is{d:Nat}(h:d<10):A3 (UInt8.ofNat (48+d))=true:=by unfold A3;rw [aQC h];simp;omega
theorem aQE(u:Nat):decDigits u≠[]/\(decDigits u).all A3=true/\F5 (decDigits u)=u:=by
 induction u using Nat.strongRecOn with
 | _ u b =>
  by_cases h:u<10
  ·rw [decDigits,dif_pos h];refine⟨by simp,by rw [List.all_cons,List.all_nil,Bool.and_true];exact dig_is h,?_⟩;show 10*0+((UInt8.ofNat (48+u)).toNat-48)=u;rw [aQC h];omega
  ·obtain⟨_,c,d⟩:=b (u / 10) (by omega);have a:u % 10<10:=by omega
   rw [decDigits,dif_neg h];refine⟨by simp,by rw [List.all_append,c,List.all_cons,List.all_nil,Bool.and_true,Bool.true_and];exact dig_is a,?_⟩;rw [vR,d,aQC a];omega
theorem dig_inW{c:UInt8}(h:A3 c=true):CV c=true:=by simp [CV,h]
theorem aRJ{l:AE}(h:l.all A3=true):l.all CV=true:=by rw [List.all_eq_true] at h ⊢;exact fun x a=>dig_inW (h x a)
theorem aRI(u:Nat):minus (decDigits u)=false:=by
 obtain⟨d,a,_⟩:=aQE u;unfold minus
 cases b:decDigits u with
 | nil=>exact absurd b d
 | cons c r =>
  rw [b] at a;simp only [List.all_cons,Bool.and_eq_true] at a;have e:=Q2 c a.1;have:(c==45)=false:=by rw [beq_eq_false_iff_ne];rintro rfl;have:(45:UInt8).toNat=45:=rfl;omega
  simp [this]
theorem aO1(n:Int):(itoa n).all CV=true/\itoa n≠[]/\isNum (itoa n)=true/\F3 (itoa n)=n/\F5 (EY (itoa n))=n.natAbs:=by
 unfold itoa Lib.itoa;by_cases h:n<0
 ·rw [if_pos h];obtain⟨e,b,c⟩:=aQE n.natAbs;have d:minus (45::decDigits n.natAbs)=true:=by unfold minus;have:0<(decDigits n.natAbs).length:=List.length_pos_iff.2 e;simp [this]
  have a:EY (45::decDigits n.natAbs)=decDigits n.natAbs:=by unfold EY;rw [if_pos d];rfl
  refine⟨by rw [List.all_cons,aRJ b];rfl,by simp,by unfold isNum;rw [a];exact b,?_,by rw [a];exact c⟩;unfold F3;rw [if_pos d,a,c];omega
 ·rw [if_neg h];obtain⟨e,b,c⟩:=aQE n.toNat;have d:=aRI n.toNat;have a:EY (decDigits n.toNat)=decDigits n.toNat:=by unfold EY;rw [if_neg (by rw [d];decide)]
  refine⟨aRJ b,e,by unfold isNum;rw [a];exact b,?_,by rw [a,c];omega⟩;unfold F3;rw [if_neg (by rw [d];decide),a,c];omega
theorem itoa_tk(h:n.natAbs<=CG):tk (itoa n)=.wd (some (.lit (.int .i64 n),false)):=by
 obtain⟨b,j,c,d,f⟩:=aO1 n;have g:pw (itoa n)=some (.lit (.int .i64 n),false):=by unfold pw ER;rw [if_pos c,d,f,decide_eq_false (by omega)]
 have a:∀t:Tok,t.all CV=false->¬itoa n=t:=fun t i e=>by rw [e,i] at b;cases b
 rcases aPD (itoa n) with⟨h,_⟩ | ⟨h,_⟩ | ⟨h,_⟩ | ⟨h,_⟩ | ⟨h,_⟩ | ⟨_,h⟩
 ·exact absurd h (a _ (by decide))
 ·exact absurd h (a _ (by decide))
 ·exact absurd h (a _ (by decide))
 ·exact absurd h (a _ (by decide))
 ·exact absurd h (a _ (by decide))
 ·rw [h,g]
theorem aRE(n:Int):BF (itoa n)=true:=by unfold BF;rw [(aO1 n).2.2.1];simp
theorem aQD:∀(k u:Nat),u<10^(k+1)->(decDigits u).length<=k+1
 | 0,u,h=>by rw [decDigits,dif_pos (by simpa using h)];simp
 | k+1,u,h=>by
  rw [decDigits];split
  ·simp
  ·rw [a_];have:=aQD k (u / 10) (by rw [Nat.pow_succ] at h;omega);simp;omega
theorem itoa_len(h:n.natAbs<=CG):(itoa n).length<=14:=by
 unfold itoa Lib.itoa;have a:n.natAbs<10^(12+1):=Nat.lt_of_le_of_lt h (by decide);by_cases b:n<0
 ·rw [if_pos b,c_];have:=aQD 12 n.natAbs a;omega
 ·rw [if_neg b];have e:n.toNat=n.natAbs:=by omega
  rw [e];have:=aQD 12 n.natAbs a;omega
theorem itoa_cut(h:n.natAbs<=CG):cut (itoa n)=itoa n:=by unfold cut;rw [if_neg (by have:=itoa_len h;omega)]
theorem aRK{a:AE}{c:UInt8}{b:List Tok}(g:BX (a++[c])=some b)(h:CV c=false)(e:(c==35)=false)(n:Int){d:UInt8}(i:CV d=false){r:AE}{f:List Tok}(j:BX (d::r)=some f):BX (a++c::(itoa n++d::r))=some (b++itoa n::f):=by rw [aOZ a.length a c b _ n_ h e g,aQJ (aO1 n).1 (aO1 n).2.1 i,j];rfl
end Pl
end
section
variable {ov:Bool}
namespace Pl
inductive PA where
 | ar (n:Int) (rest:List CW)
 | dp (a:PV) (rest:List CW)
def aQ7(S:PS):Option PA:=match S.form,S.AB with
 | none,fr::rest =>
  if fr.form.k=.call then
   if fr.pos=fr.form.ks.length then match fr.B8++[S.val] with
    | [.AZ s,.num x,.num y]=>if s=BH then some (.ar (x+y) rest) else if s=A4 then some (.ar (x-y) rest) else if s=BA then some (.ar (x*y) rest) else none
    | [.AZ s,a]=>if s=A7 then some (.dp a rest) else none
    | _=>none
   else none
  else none
 | _,_=>none
def aQ4(ov:Bool)(W:PW)(S:PS):SR×List Prop:=match aQ7 S with
 | some (.ar n rest)=>if ov then(⟨11,W,{S with AB:=rest}⟩,[¬n.natAbs<=CG]) else(⟨0,W,({S with AB:=rest}:PS).A1 (.num n)⟩,[n.natAbs<=CG])
 | some (.dp a rest)=>(⟨0,{W with out:=W.out++cut (text W.pairs a)},({S with AB:=rest}:PS).A1 .nothing⟩,[W.out.length+(cut (text W.pairs a)).length<=1000])
 | none=>(step W S,[])
def aQA(ov:Bool):Nat->PW->PS->SR×List Prop
 | 0,W,S=>if S.ended then(⟨0,W,S⟩,[]) else(⟨7,W,S⟩,[])
 | n+1,W,S=>if S.ended then(⟨0,W,S⟩,[]) else
  match aQ4 ov W S with
  | (r,l)=>if r.e=0 then match aQA ov n r.W r.S with
    | (q,m)=>(q,l++m)
   else(r,l)
theorem aQF{W:PW}{S:PS}(h:∀p∈(aQ4 ov W S).2,p):step W S=(aQ4 ov W S).1:=by
 unfold aQ4 at h ⊢
 cases b:aQ7 S with
 | none=>rfl
 | some a =>
  rw [b] at h;unfold aQ7 at b;obtain⟨m,k,i,j⟩:=S
  cases m with
  | some f=>simp at b
  | none =>
   cases j with
   | nil=>simp at b
   | cons u d =>
    dsimp only at b;split at b
    ·rename_i w;split at b
     ·rename_i n
      have r:step W ⟨none,k,i,u::d⟩=match u.B8++[i] with
        | []=>⟨9,W,⟨none,k,i,d⟩⟩
        | g::o=>apply W ⟨none,k,i,d⟩ g o:=by
       unfold step taken;dsimp only;rw [w];dsimp only;rw [if_pos n];rfl
      rw [r];split at b
      ·rename_i s x y t;rw [t];dsimp only
       have z:¬(PV.AZ s=.AZ AU)\/s=AU:=by
        by_cases e:s=AU
        ·exact .inr e
        ·exact .inl (fun q=>e (by injection q))
       split at b
       ·rename_i l;obtain rfl:=i_ b;subst l
        cases ov with
        | true =>have c:¬(x+y).natAbs<=CG:=h _ (by simp);show(if(x+y).natAbs<=CG then _ else _)=_;rw [if_neg c];rfl
        | false =>have c:(x+y).natAbs<=CG:=h _ (by simp);show(if(x+y).natAbs<=CG then _ else _)=_;rw [if_pos c];rfl
       ·split at b
        ·rename_i l;obtain rfl:=i_ b;subst l
         cases ov with
         | true =>have c:¬(x-y).natAbs<=CG:=h _ (by simp);show(if(x-y).natAbs<=CG then _ else _)=_;rw [if_neg c];rfl
         | false =>have c:(x-y).natAbs<=CG:=h _ (by simp);show(if(x-y).natAbs<=CG then _ else _)=_;rw [if_pos c];rfl
        ·split at b
         ·rename_i l;obtain rfl:=i_ b;subst l
          cases ov with
          | true =>have c:¬(x*y).natAbs<=CG:=h _ (by simp);show(if(x*y).natAbs<=CG then _ else _)=_;rw [if_neg c];rfl
          | false =>have c:(x*y).natAbs<=CG:=h _ (by simp);show(if(x*y).natAbs<=CG then _ else _)=_;rw [if_pos c];rfl
         ·cases b
      ·rename_i s v t;rw [t];dsimp only;split at b
       ·rename_i l;obtain rfl:=i_ b;subst l;have c:W.out.length+(cut (text W.pairs v)).length<=1000:=h _ (by simp);show(if W.out.length+(cut (text W.pairs v)).length<=1000 then _ else _)=_;rw [if_pos c]
       ·cases b
      ·cases b
     ·cases b
    ·cases b
theorem aQI{ov:Bool}:∀(n:Nat)(W:PW)(S:PS),(∀p∈(aQA ov n W S).2,p)->A8 n W S=(aQA ov n W S).1
 | 0,W,S,_=>by unfold A8 aQA;split<;>rfl
 | n+1,W,S,h=>by
  unfold aQA at h ⊢;unfold A8;split
  ·rfl
  ·rename_i e;rw [if_neg e] at h
   cases c:aQ4 ov W S with
   | mk r l =>
    rw [c] at h;dsimp only at h ⊢;by_cases b:r.e=0
    ·rw [if_pos b] at h;have a:step W S=r:=by have:=aQF (ov:=ov) (W:=W) (S:=S) (by rw [c];exact fun p d=>h p (by dsimp only;exact List.mem_append_left _ d));rw [c] at this;exact this
     rw [a,if_pos b,if_pos b];exact aQI n r.W r.S (fun p d=>h p (List.mem_append_right _ d))
    ·rw [if_neg b] at h;have a:step W S=r:=by have:=aQF (ov:=ov) (W:=W) (S:=S) (by rw [c];exact fun p d=>h p d);rw [c] at this;exact this
     rw [a,if_neg b,if_neg b]
def aQL(ov:Bool):PW->List (PF×Nat)->(PW×List PO)×List Prop
 | W,[]=>((W,[]),[])
 | W,(f,z)::r=>match aQA ov z (AR W f) (AV W f) with
  | (q,l)=>match aQL ov q.W r with
   | ((W2,os),m)=>((W2,told q::os),l++m)
def Reads(i:AE×Int)(f:PF×Nat):Prop:=over i.2=false/\check i.1=0/\BQ i.1=some f.1/\i.2.toNat=f.2
def ReadsL:List (AE×Int)->List (PF×Nat)->Prop
 | [],[]=>True
 | i::r,f::s=>Reads i f/\ReadsL r s
 | _,_=>False
theorem sesT_eq{ov:Bool}:∀(b:List (AE×Int)) (c:List (PF×Nat)) (W:PW),ReadsL b c->(∀p∈(aQL ov W c).2,p)->AF W b=(aQL ov W c).1
 | [],[],_,_,_=>rfl
 | i::b,(f,z)::c,W,e,h=>by
  obtain⟨⟨s,t,n,o⟩,e⟩:=e;dsimp only at n o;have d:answer W i=((A8 z (AR W f) (AV W f)).W,told (A8 z (AR W f) (AV W f))):=by unfold answer;rw [if_neg (by simp [s]),if_neg (by simp [t]),n,o]
  unfold aQL at h ⊢
  cases g:aQA ov z (AR W f) (AV W f) with
  | mk q l =>
   rw [g] at h;dsimp only at h ⊢
   cases j:aQL ov q.W c with
   | mk a m =>
    obtain⟨v,w⟩:=a;rw [j] at h;dsimp only at h ⊢;have u:A8 z (AR W f) (AV W f)=q:=by have:=aQI (ov:=ov) z (AR W f) (AV W f) (by rw [g];exact fun p k=>h p (List.mem_append_left _ k));rw [g] at this;exact this
    have r:=sesT_eq b c q.W e (by rw [j];exact fun p k=>h p (List.mem_append_right _ k));rw [j] at r;simp only [AF,d,u,r]
end Pl
namespace Pl
def segT:List (AE×Int)->AE->AE
 | [],z=>z
 | (a,n)::r,z=>a++(itoa n++segT r z)
def endOk(a:AE):Bool:=match a.getLast? with
 | some c=>!CV c&&!(c==35)
 | none=>false
def aQ2(a:AE):Bool:=match a.head? with
 | some c=>!CV c
 | none=>false
def aO0(a:AE):List Tok:=(BX a).getD []
def aPF(a:AE):Bool:=(BX a).isSome&&(aO0 a).all BF
def segC:List (AE×Int)->AE->Bool
 | [],z=>aPF z
 | (a,_)::r,z=>aPF a&&endOk a&&(match r with
  | []=>aQ2 z
  | (b,_)::_=>aQ2 b)&&segC r z
def segL:List (AE×Int)->AE->List Tok
 | [],z=>aO0 z
 | (a,n)::r,z=>aO0 a++itoa n::segL r z
def aQM:List (AE×Int)->AE->List TK
 | [],z=>(aO0 z).map tk
 | (a,n)::r,z=>(aO0 a).map tk++.wd (some (.lit (.int .i64 n),false))::aQM r z
def segN:List (AE×Int)->AE->Nat
 | [],z=>z.length
 | (a,_)::r,z=>a.length+14+segN r z
theorem aPB{a:AE}(h:aPF a=true):BX a=some (aO0 a)/\(aO0 a).all BF=true:=by
 unfold aPF at h;simp only [Bool.and_eq_true] at h;refine⟨?_,h.2⟩;unfold aO0
 cases b:BX a with
 | none=>rw [b] at h;cases h.1
 | some l=>rfl
theorem seg_beg{l:List (AE×Int)}{z:AE}(h:(match l with
  | []=>aQ2 z
  | (b,_)::_=>aQ2 b)=true):∃d r,segT l z=d::r/\CV d=false:=by
 have c:∀{a:AE} (s:AE),aQ2 a=true->∃d r,a++s=d::r/\CV d=false:=fun {a} s e=>by
  cases a with
  | nil=>cases e
  | cons d r=>exact⟨d,r++s,rfl,by simpa [aQ2] using e⟩
 cases l with
 | nil =>obtain⟨d,r,f,g⟩:=c [] h;exact⟨d,r,by rw [List.append_nil] at f;exact f,g⟩
 | cons x l=>exact c _ h
theorem aQH:∀(l:List (AE×Int)) (z:AE),segC l z=true->BX (segT l z)=some (segL l z)/\(segL l z).all BF=true
 | [],z,h=>aPB h
 | (a,n)::r,z,h=>by
  simp only [segC,Bool.and_eq_true] at h;obtain⟨⟨⟨o,i⟩,p⟩,q⟩:=h;obtain⟨j,t⟩:=aPB o;obtain⟨k,u⟩:=aQH r z q;obtain⟨d,s,e,v⟩:=seg_beg p;have f:a≠[]:=fun e=>by rw [e] at i;cases i
  obtain⟨b,c,g⟩:∃b c,a=b++[c]:=⟨a.dropLast,a.getLast f,(List.dropLast_concat_getLast f).symm⟩
  have m:CV c=false/\(c==35)=false:=by rw [g] at i;simpa [endOk] using i
  refine⟨?_,by simp only [segL,List.all_append,List.all_cons,t,u,aRE,Bool.and_self]⟩;show BX (a++(itoa n++segT r z))=some (aO0 a++itoa n::segL r z);rw [e] at k ⊢;rw [g] at j ⊢;rw [List.append_assoc,List.singleton_append];exact aRK j m.1 m.2 n v k
theorem aPJ:∀(l:List (AE×Int)) (z:AE),(∀x∈l,x.2.natAbs<=CG)->(segL l z).map tk=aQM l z
 | [],_,_=>rfl
 | (a,n)::r,z,h=>by simp only [segL,aQM,List.map_append,List.map_cons];rw [itoa_tk (h (a,n) (by simp)),aPJ r z (fun x b=>h x (List.mem_cons_of_mem _ b))]
theorem aQ5:∀(l:List (AE×Int)) (z:AE),(∀x∈l,x.2.natAbs<=CG)->(segT l z).length<=segN l z
 | [],_,_=>n_
 | (a,n)::r,z,h=>by have b:=itoa_len (h (a,n) (by simp));have d:=aQ5 r z (fun x c=>h x (List.mem_cons_of_mem _ c));simp only [segT,segN,a_];dsimp only at b;omega
def okK(K:List TK):Bool:=match pdK K.length K with
 | some p=>p.q.isEmpty&&(decide (p.dp<=20)&&(!p.gr&&GY (K.length-1) p.t))
 | none=>false
def frm(K:List TK):Option PF:=match pdK K.length K with
 | some p=>BZ (K.length-1) p.t
 | none=>none
theorem aRM{l:List (AE×Int)}{z:AE}{f:PF}(s:segC l z=true)(g:∀x∈l,x.2.natAbs<=CG)(t:segN l z<=300)(a:okK (aQM l z)=true)(b:frm (aQM l z)=some f){k:Int}{m:Nat}(u:over k=false)(v:k.toNat=m):Reads (segT l z,k) (f,m):=by
 obtain⟨w,y⟩:=aQH l z s;have h:=aPJ l z g;have A:=aQ5 l z g;have c:(aQM l z).length=(segL l z).length:=by rw [<- h,List.length_map]
 unfold okK at a;unfold frm at b
 cases e:pdK (aQM l z).length (aQM l z) with
 | none=>rw [e] at a;cases a
 | some p =>rw [e] at a b;simp only [Bool.and_eq_true,decide_eq_true_eq,List.isEmpty_iff,Bool.not_eq_true'] at a;dsimp only at b;obtain⟨d,q,D,E⟩:=p;obtain⟨i,j,o,r⟩:=a;dsimp only at i j o r b;subst i o;obtain⟨B,C⟩:=read_of (n:=(aQM l z).length) (t_ A t) w c.symm y h e j r b;exact⟨u,B,C,v⟩
abbrev Seg:=List (AE×Int)×AE
def segI(s:Seg):AE×Int:=(segT s.1 s.2,2000)
def nilF:PF:=.mk .const [] .nil .nothing [] []
def aQ6(s:Seg):PF×Nat:=((frm (aQM s.1 s.2)).getD nilF,2000)
def segG(s:Seg):Bool:=segC s.1 s.2&&(Nat.ble (segN s.1 s.2) 300&&(okK (aQM s.1 s.2)&&(frm (aQM s.1 s.2)).isSome))
theorem seg_one{s:Seg}(h:segG s=true)(b:∀x∈s.1,x.2.natAbs<=CG):Reads (segI s) (aQ6 s):=by
 unfold segG at h;simp only [Bool.and_eq_true] at h;obtain⟨c,d,g,i⟩:=h;obtain⟨f,a⟩:=Option.isSome_iff_exists.1 i;have e:(frm (aQM s.1 s.2)).getD nilF=f:=by rw [a];rfl
 unfold segI aQ6;rw [e];exact aRM c b (Nat.le_of_ble_eq_true d) g a rfl rfl
theorem seg_all:∀(l:List Seg),l.all segG=true->(∀s∈l,∀x∈s.1,x.2.natAbs<=CG)->ReadsL (l.map segI) (l.map aQ6)
 | [],_,_=>trivial
 | s::l,h,a=>by simp only [List.all_cons,Bool.and_eq_true] at h;exact⟨seg_one h.1 (a s (by simp)),seg_all l h.2 (fun x b=>a x (List.mem_cons_of_mem _ b))⟩
end Pl
namespace Pl
def valK(s:UInt8)(a b:Int):PV:=if s=43 then .num (a+b) else if s=45 then .num (a-b) else if s=42 then .num (a*b) else if s=60 then .AT (decide (a<b)) else .AT (decide (a=b))
def condK(s:UInt8)(a b:Int):List Prop:=if s=43 then [(a+b).natAbs<=CG] else if s=45 then [(a-b).natAbs<=CG] else if s=42 then [(a*b).natAbs<=CG] else []
def bigK(s:UInt8)(a b:Int):Int:=if s=43 then a+b else if s=45 then a-b else if s=42 then a*b else 0
def toldT(s:UInt8)(a b:Int):AE:=if(bigK s a b).natAbs<=CG then OF (valK s a b) else []
def signL:List UInt8:=[43,45,42,60,61]
theorem cond_big{s:UInt8}(c:s∈signL){a b:Int}(h:(bigK s a b).natAbs<=CG):∀p∈condK s a b,p:=by simp only [signL,List.mem_cons,List.not_mem_nil,or_false] at c;rcases c with rfl | rfl | rfl | rfl | rfl<;>intro p d<;>simp [condK,bigK] at d h<;>exact d.2 h
theorem told_len{s:UInt8}(d:s∈signL){a b:Int}(h:(bigK s a b).natAbs<=CG):(OF (valK s a b)).length<=14/\OF (valK s a b)≠[]:=by
 have c:∀n:Int,itoa n≠[]:=fun n=>(aO1 n).2.1;have e:∀b:Bool,(OF (.AT b)).length<=14/\OF (.AT b)≠[]:=fun b=>by cases b<;>exact⟨by decide,by decide⟩
 simp only [signL,List.mem_cons,List.not_mem_nil,or_false] at d;rcases d with rfl | rfl | rfl | rfl | rfl
 ·exact⟨itoa_len h,c _⟩
 ·exact⟨itoa_len h,c _⟩
 ·exact⟨itoa_len h,c _⟩
 ·exact e _
 ·exact e _
theorem short_cut{l:AE}(h:l.length<=200):cut l=l:=by unfold cut;rw [if_neg (by omega)]
end Pl
end
end Go.Proofs.YtkgbdddkcjpgfaaGreatDoor
