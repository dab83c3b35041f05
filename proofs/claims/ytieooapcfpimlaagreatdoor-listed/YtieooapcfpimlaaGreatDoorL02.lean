import Derived.Lib.ItoaNum
import Derived.Test.YtieooapcfpimlaaGreatDoorL01
import Derived.Deep.QuietTactic
import Derived.BigQuiet
import Derived.Deep.AppendLies
import Derived.BigRegion
import Derived.Deep.RegionLaw
namespace Go.Proofs.YtieooapcfpimlaaGreatDoor
section
namespace Pl
abbrev AE:=List UInt8
inductive PV where
 | num (n:Int)
 | AT (b:Bool)
 | name (s:AE)
 | empty
 | nothing
 | pair (n:Nat)
 | proc (n:Nat)
 | cont (n:Nat)
 | AZ (s:AE)
 deriving DecidableEq
inductive FK where
 | const
 | name
 | iff
 | set
 | define
 | lambda
 | begin
 | call
 deriving DecidableEq
inductive PF where
 | mk (k:FK) (nm:AE) (d:A9) (v:PV) (ks:List PF) (ns:List AE)
namespace PF
def k:PF->FK
 | .mk k _ _ _ _ _=>k
def nm:PF->AE
 | .mk _ nm _ _ _ _=>nm
def d:PF->A9
 | .mk _ _ d _ _ _=>d
def v:PF->PV
 | .mk _ _ _ v _ _=>v
def ks:PF->List PF
 | .mk _ _ _ _ ks _=>ks
def ns:PF->List AE
 | .mk _ _ _ _ _ ns=>ns
end PF
abbrev Env:=List (AE×Nat)
structure CW where
 form:PF
 B8:List PV
 pos:Nat
 env:Env
structure PW where
 pairs:List (PV×PV)
 procs:List (PF×Env)
 AG:List (List CW)
 places:List PV
 globals:Env
 out:AE
structure PS where
 form:Option PF
 env:Env
 val:PV
 AB:List CW
structure SR where
 e:Nat
 W:PW
 S:PS
def find:Env->AE->Option Nat
 | [],_=>none
 | b::r,s=>match find r s with
  | some k=>some k
  | none=>if b.1=s then some b.2 else none
theorem FJ(a b:Env)(s:AE):find (a++b) s=match find b s with
  | some k=>some k
  | none=>find a s:=by
 induction a with
 | nil=>simp only [List.nil_append];cases find b s<;>rfl
 | cons x a c =>
  simp only [List.cons_append,find,c]
  cases find b s<;>rfl
def DL(W:PW)(env:Env)(s:AE):Option Nat:=match find env s with
 | some k=>some k
 | none=>find W.globals s
def bind(W:PW)(s:AE)(v:PV):PW:=match find W.globals s with
 | some k=>{W with places:=W.places.set k v}
 | none=>{W with places:=W.places++[v],globals:=W.globals++[(s,W.places.length)]}
def PS.A1(S:PS)(v:PV):PS:={S with form:=none,val:=v}
def PS.work(S:PS)(f:Option PF)(env:Env):PS:={S with form:=f,env:=env}
def PS.push(S:PS)(f:CW):PS:={S with AB:=f::S.AB}
def C1(l:List AE)(n:Nat):Env:=match l with
 | []=>[]
 | s::r=>(s,n)::C1 r (n+1)
def itoa(n:Int):AE:=Lib.itoa n
def J6:AE:=[35,112,114,111,99,101,100,117,114,101]
def OF:PV->AE
 | .num n=>itoa n
 | .AT b=>if b then [35,116] else [35,102]
 | .name s=>s
 | .empty=>[40,41]
 | .nothing=>[]
 | .pair _=>[]
 | _=>J6
mutual
def KW(ps:List (PV×PV)):Nat->PV->AE
 | 0,_=>[]
 | n+1,.pair i=>match ps[i]? with
  | some p=>40::(KW ps n p.1++tails ps n p.2)
  | none=>[]
 | _+1,v=>OF v
def tails(ps:List (PV×PV)):Nat->PV->AE
 | 0,_=>[]
 | n+1,.pair i=>match ps[i]? with
  | some p=>32::(KW ps n p.1++tails ps n p.2)
  | none=>[]
 | _+1,.empty=>[41]
 | _+1,v=>[32,46,32]++OF v++[41]
end
def B7:PV->Nat
 | .pair i=>i+1
 | _=>0
def text(ps:List (PV×PV))(v:PV):AE:=KW ps (B7 v+1) v
def cut(s:AE):AE:=if 200<s.length then s.take 200++[46,46] else s
def BH:AE:=[43]
def A4:AE:=[45]
def BA:AE:=[42]
def BW:AE:=[60]
def IA:AE:=[61]
def CS:AE:=[99,111,110,115]
def DN:AE:=[99,97,114]
def C8:AE:=[99,100,114]
def DY:AE:=[110,117,108,108,63]
def DW:AE:=[112,97,105,114,63]
def BR:AE:=[101,113,63]
def A7:AE:=[100,105,115,112,108,97,121]
def AU:AE:=[99,97,108,108,47,99,99]
def AO:List AE:=[BH,A4,BA,BW,IA,CS,DN,C8,DY,DW,BR,A7,AU]
def arity(s:AE):Nat:=if s=DN\/s=C8\/s=DY\/s=DW\/s=A7\/s=AU then 1 else 2
def reckon(W:PW)(S:PS)(s:AE)(a b:PV):SR:=match a,b with
 | .num x,.num y =>
  if s=BW then⟨0,W,S.A1 (.AT (decide (x<y)))⟩
  else if s=IA then⟨0,W,S.A1 (.AT (decide (x=y)))⟩
  else
   let n:=if s=BH then x+y else if s=A4 then x-y else x*y
   if n.natAbs<=Pl.CG then⟨0,W,S.A1 (.num n)⟩ else⟨11,W,S⟩
 | _,_=>⟨9,W,S⟩
def YH:PV->Bool
 | .pair _=>true
 | _=>false
def B0(W:PW)(S:PS)(s:AE)(a:PV):SR :=
 if s=A7 then
  let t:=cut (text W.pairs a)
  if W.out.length+t.length<=1000 then⟨0,{W with out:=W.out++t},S.A1 .nothing⟩ else⟨11,W,S⟩
 else if s=DN\/s=C8 then match a with
  | .pair i=>match W.pairs[i]? with
   | some p=>⟨0,W,S.A1 (if s=C8 then p.2 else p.1)⟩
   | none=>⟨9,W,S⟩
  | _=>⟨9,W,S⟩
 else if s=DY then⟨0,W,S.A1 (.AT (decide (a=.empty)))⟩
 else⟨0,W,S.A1 (.AT (YH a))⟩
def A2(W:PW)(S:PS)(s:AE)(a b:PV):SR :=
 if s=CS then⟨0,{W with pairs:=W.pairs++[(a,b)]},S.A1 (.pair W.pairs.length)⟩
 else if s=BR then⟨0,W,S.A1 (.AT (decide (a=b)))⟩
 else reckon W S s a b
def AH(W:PW)(S:PS)(f:PV)(args:List PV):SR:=match f with
 | .proc i=>match W.procs[i]? with
  | some p=>if args.length≠p.1.ns.length then⟨10,W,S⟩
   else⟨0,{W with places:=W.places++args},S.work p.1.ks[0]? (p.2++C1 p.1.ns W.places.length)⟩
  | none=>⟨9,W,S⟩
 | .cont i=>match args with
  | [a]=>⟨0,W,{S with AB:=W.AG[i]?.getD []}.A1 a⟩
  | _=>⟨10,W,S⟩
 | .AZ s=>if args.length≠arity s then⟨10,W,S⟩ else match args with
  | [a]=>B0 W S s a
  | [a,b]=>A2 W S s a b
  | _=>⟨10,W,S⟩
 | _=>⟨9,W,S⟩
def PW.keep(W:PW)(S:PS):PW:={W with AG:=W.AG++[S.AB]}
def apply(W:PW)(S:PS)(f:PV)(args:List PV):SR :=
 if f=.AZ AU then match args with
  | [a] =>
   let c:=PV.cont W.AG.length
   if a=.AZ AU then AH ((W.keep S).keep S) S c [.cont (W.AG.length+1)]
   else AH (W.keep S) S a [c]
  | _=>⟨10,W,S⟩
 else AH W S f args
def taken(W:PW)(S:PS):SR:=match S.AB with
 | []=>⟨9,W,S⟩
 | fr::rest =>
  let S1:={S with AB:=rest}
  match fr.form.k with
  | .iff=>⟨0,W,S1.work (if S.val=.AT false then fr.form.ks[2]? else fr.form.ks[1]?) fr.env⟩
  | .set=>match DL W fr.env fr.form.nm with
   | some k=>⟨0,{W with places:=W.places.set k S.val},S1.A1 .nothing⟩
   | none=>⟨8,W,S1⟩
  | .define=>⟨0,bind W fr.form.nm S.val,S1.A1 .nothing⟩
  | .begin=>⟨0,W,(if fr.pos+1<fr.form.ks.length then S1.push {fr with B8:=[],pos:=fr.pos+1} else S1).work fr.form.ks[fr.pos]? fr.env⟩
  | _ =>
   let B8:=fr.B8++[S.val]
   if fr.pos=fr.form.ks.length then match B8 with
    | []=>⟨9,W,S1⟩
    | g::args=>apply W S1 g args
   else⟨0,W,(S1.push {fr with B8:=B8,pos:=fr.pos+1}).work fr.form.ks[fr.pos]? fr.env⟩
def step(W:PW)(S:PS):SR:=match S.form with
 | none=>taken W S
 | some f=>match f.k with
  | .const=>⟨0,W,S.A1 f.v⟩
  | .name=>match DL W S.env f.nm with
   | some k=>⟨0,W,S.A1 (W.places[k]?.getD .nothing)⟩
   | none=>⟨8,W,S⟩
  | .lambda=>⟨0,{W with procs:=W.procs++[(f,S.env)]},S.A1 (.proc W.procs.length)⟩
  | .begin=>⟨0,W,(if 1<f.ks.length then S.push ⟨f,[],1,S.env⟩ else S).work f.ks[0]? S.env⟩
  | _=>⟨0,W,(S.push ⟨f,[],1,S.env⟩).work f.ks[0]? S.env⟩
def PS.ended(S:PS):Bool:=S.form.isNone&&S.AB.isEmpty
def A8:Nat->PW->PS->SR
 | 0,W,S=>if S.ended then⟨0,W,S⟩ else⟨7,W,S⟩
 | n+1,W,S=>if S.ended then⟨0,W,S⟩ else
  let r:=step W S
  if r.e=0 then A8 n r.W r.S else r
end Pl
end
open Pl (PV PW AE Env FK AO)
section
open Go.RowKit
variable {M:Nat->Prop} {w w':World}
def vS:PV->AE
 | .name s=>s
 | .AZ s=>s
 | _=>[]
def Sl(M:Nat->Prop)(w:World)(T:TypeId)(sz:Nat)(v:Value)(n:Nat)(xs:List Value):Prop :=xs.length=n*sz/\∃ao cap,v=.slice ao n cap/\n<=cap/\(n=0\/∃g off cur,ao=some ⟨g,off,none⟩/\¬M g/\w.heap[g]?=some (.cells cur T (0,0))/\∀(i:Nat)(u:Value),xs[i]?=some u->cur[off+i]?=some u)
def shape:FK->Nat->Prop
 | .const,n=>n=0
 | .name,n=>n=0
 | .iff,n=>n=3
 | .set,n=>n=1
 | .define,n=>n=1
 | .lambda,n=>n=1
 | .begin,n=>1<=n
 | .call,n=>1<=n
structure Stp(M:Nat->Prop)(w:World)(M':Nat->Prop)(w':World):Prop where
 os:w'.os=w.os
 tape:w'.tape=w.tape
 output:w'.output=w.output
 size:w.heap.size<=w'.heap.size
 block:∀k,k<w.heap.size->¬M k->w'.heap[k]?=w.heap[k]? /\ ¬M' k
theorem Stp.refl(M:Nat->Prop)(w:World):Stp M w M w:=⟨rfl,rfl,rfl,n_,fun _ _ h=>⟨rfl,h⟩⟩
theorem Stp.trans{M1 M2 M3:Nat->Prop}{a b c:World}(h:Stp M1 a M2 b)(k:Stp M2 b M3 c):Stp M1 a M3 c :=
 ⟨k.os.trans h.os,k.tape.trans h.tape,k.output.trans h.output,t_ h.size k.size,fun i d e=>by
  obtain⟨f,g⟩:=h.block i d e;obtain⟨j,l⟩:=k.block i (l_ d h.size) g
  exact⟨j.trans f,l⟩⟩
theorem Stp.AA(h:Below w.heap.size w w'):Stp M w M w':=⟨h.os,h.tape,h.output,h.size,fun k a b=>⟨h.block k a,b⟩⟩
theorem Stp.DX{row:Option Nat}(h:w.grownBy w' row)(b:∀k,row=some k->M k):Stp M w M w' :=⟨h.os,h.tape,h.output,h.size,fun k c a=>⟨h.block k c (fun e=>a (b k e.symm)),a⟩⟩
theorem Sl.AQ{M':Nat->Prop}{T:TypeId}{sz:Nat}{v:Value}{n:Nat}{xs:List Value}(h:Stp M w M' w')(e:Sl M w T sz v n xs):Sl M' w' T sz v n xs:=by obtain⟨f,i,a,rfl,j,k⟩:=e;refine⟨f,i,a,rfl,j,k.imp id ?_⟩;rintro⟨g,b,c,rfl,l,d,m⟩;obtain⟨o,p⟩:=h.block g (aB d) l;exact⟨g,b,c,rfl,p,o.trans d,m⟩
def BL(W:PW):PV->Prop
 | .num n=>n.natAbs<=Pl.CG
 | .pair i=>i<W.pairs.length
 | .proc i=>i<W.procs.length
 | .cont i=>i<W.AG.length
 | .AZ s=>s∈AO
 | .name s=>s.length<=300
 | _=>True
def LG(W:PW)(env:Env):Prop:=∀b∈env,b.2<W.places.length
end
section
namespace Pl
def BN(k:FK)(nm:AE)(d:A9)(ks:List PF)(ns:List AE):PF:=.mk k nm d .nothing ks ns
def B1(f:A9->Option PF):List A9->Option (List PF)
 | []=>some []
 | x::r=>(f x).bind fun a=>(B1 f r).map fun l=>a::l
def EA(f:A9->Option PF)(ns body:A9):Option PF:=match ns with
 | .agg l=>if CJ l then(f body).map fun b=>BN .lambda [] .nil [b] (l.map strOf) else none
 | _=>none
def D5(f:A9->Option PF)(ps body:A9):Option PF:=match ps with
 | .agg l=>if l.all BI then(EA f (.agg (l.map DC)) body).bind fun h=>(B1 f (l.map BU)).map fun r=>BN .call [] .nil (h::r) [] else none
 | _=>none
def E6(k:FK)(f:A9->Option PF)(r:List A9):Option PF:=match r with
 | [n,e]=>if isName n then(f e).map fun b=>BN k (strOf n) .nil [b] [] else none
 | _=>none
def J9(f:A9->Option PF)(r:List A9):Option PF:=match r with
 | [n,e]=>EA f n e
 | _=>none
def J8(f:A9->Option PF)(r:List A9):Option PF:=match r with
 | [n,e]=>D5 f n e
 | _=>none
def IN(f:A9->Option PF)(t:A9)(h:List UInt8)(r:List A9):Option PF :=
 if h=CB then(if r.length==1 then some (BN .const [] t [] []) else none)
 else if h=VN then(if r.length==3 then(B1 f r).map fun l=>BN .iff [] .nil l [] else none)
 else if h=FX then(if !r.isEmpty then(B1 f r).map fun l=>BN .begin [] .nil l [] else none)
 else if h=LR then E6 .set f r
 else if h=C3 then J9 f r
 else if h=K2 then J8 f r
 else none
def Q1(f:A9->Option PF)(ks:List A9):Option PF:=match ks with
 | []=>none
 | k::r=>match BJ (k::r) with
  | some h=>IN f (.agg (k::r)) h r
  | none=>(B1 f (k::r)).map fun l=>BN .call [] .nil l []
def AD:Nat->A9->Option PF
 | 0,_=>none
 | n+1,t=>match t with
  | .lit (.int k m)=>some (BN .const [] (.lit (.int k m)) [] [])
  | .lit (.bool x)=>some (BN .const [] (.lit (.bool x)) [] [])
  | .lit (.string s)=>if EE s then none else some (BN .name s .nil [] [])
  | .agg ks=>Q1 (AD n) ks
  | _=>none
def BZ(n:Nat)(t:A9):Option PF:=match t with
 | .agg (.lit (.string h)::r)=>if h=CK then E6 .define (AD n) r else AD (n+1) t
 | _=>AD (n+1) t
theorem II(f:A9->Option PF)(l:List A9):(B1 f l).isSome=l.all fun x=>(f x).isSome:=by
 induction l with
 | nil=>rfl
 | cons x r c =>
  unfold B1
  cases b:f x with
  | none=>simp [b]
  | some a =>simp only [Option.bind_some,Option.isSome_map,List.all_cons,b,Option.isSome_some,Bool.true_and];exact c
theorem gL(b:Bool)(o:Option PF):(if b=true then o else none).isSome=(b&&o.isSome):=by cases b<;>simp
theorem nU(f:A9->Option PF)(ns a:A9):(EA f ns a).isSome=D_ (fun x=>(f x).isSome) ns a:=by
 cases ns with
 | agg l =>
  show(if CJ l=true then(f a).map (fun b=>BN .lambda [] .nil [b] (l.map strOf)) else none).isSome=(CJ l&&(f a).isSome)
  rw [gL,Option.isSome_map]
 | _=>rfl
theorem vX(f:A9->Option PF)(ps a:A9):(D5 f ps a).isSome=C_ (fun x=>(f x).isSome) ps a:=by
 cases ps with
 | agg l =>
  show(if l.all BI=true then(EA f (.agg (l.map DC)) a).bind (fun h=>(B1 f (l.map BU)).map fun r=>BN .call [] .nil (h::r) []) else none).isSome=(l.all BI&&(CJ (l.map DC)&&(f a).isSome)&&(l.map BU).all fun x=>(f x).isSome)
  have b:(EA f (.agg (l.map DC)) a).isSome=(CJ (l.map DC)&&(f a).isSome):=nU f _ _;rw [gL,<-b,<-II]
  cases EA f (.agg (l.map DC)) a<;>simp
 | _=>rfl
theorem JZ(k:FK)(f:A9->Option PF)(r:List A9):(E6 k f r).isSome=OI (fun x=>(f x).isSome) r:=by
 match r with
 | []=>rfl
 | [_]=>rfl
 | [n,e] =>
  show(if isName n=true then(f e).map (fun b=>BN k (strOf n) .nil [b] []) else none).isSome=(isName n&&(f e).isSome)
  rw [gL,Option.isSome_map]
 | _::_::_::_=>rfl
theorem sX(f:A9->Option PF)(r:List A9):(J9 f r).isSome=lam2 (fun x=>(f x).isSome) r:=by
 match r with
 | []=>rfl
 | [_]=>rfl
 | [n,e]=>exact nU f n e
 | _::_::_::_=>rfl
theorem sW(f:A9->Option PF)(r:List A9):(J8 f r).isSome=let2 (fun x=>(f x).isSome) r:=by
 match r with
 | []=>rfl
 | [_]=>rfl
 | [n,e]=>exact vX f n e
 | _::_::_::_=>rfl
theorem wD(f:A9->Option PF)(t:A9)(h:List UInt8)(r:List A9):(IN f t h r).isSome=KS (fun x=>(f x).isSome) h r:=by
 unfold IN KS;have i:=II f r;by_cases a:h=CB
 ·rw [if_pos a,if_pos a,gL];simp
 rw [if_neg a,if_neg a];by_cases b:h=VN
 ·rw [if_pos b,if_pos b,gL,Option.isSome_map,i]
 rw [if_neg b,if_neg b];by_cases c:h=FX
 ·rw [if_pos c,if_pos c,gL,Option.isSome_map,i]
 rw [if_neg c,if_neg c];by_cases d:h=LR
 ·rw [if_pos d,if_pos d];exact JZ _ f r
 rw [if_neg d,if_neg d];by_cases e:h=C3
 ·rw [if_pos e,if_pos e];exact sX f r
 rw [if_neg e,if_neg e];by_cases g:h=K2
 ·rw [if_pos g,if_pos g];exact sW f r
 rw [if_neg g,if_neg g];rfl
theorem sV(f:A9->Option PF)(a:List A9):(Q1 f a).isSome=F7 (fun x=>(f x).isSome) a:=by
 cases a with
 | nil=>rfl
 | cons k r =>
  unfold Q1 F7;dsimp only
  cases BJ (k::r) with
  | some h=>exact wD f _ h r
  | none =>dsimp only;rw [Option.isSome_map,II];simp
theorem DJ:∀(n:Nat)(t:A9),(AD n t).isSome=C4 n t
 | 0,_=>rfl
 | n+1,t=>by
  have b:(fun x=>(AD n x).isSome)=C4 n:=funext (DJ n)
  cases t with
  | lit x =>
   cases x with
   | string s =>
    show(if EE s=true then none else some (BN .name s .nil [] [])).isSome=!EE s
    cases EE s<;>rfl
   | _=>rfl
  | agg a =>show(Q1 (AD n) a).isSome=F7 (C4 n) a;rw [sV,b]
  | _=>rfl
end Pl
namespace Pl
def AL(f:Nat->A9->PV×List (PV×PV))(b:Nat):List A9->PV×List (PV×PV)
 | []=>(.empty,[])
 | x::r=>((.pair (b+(AL f b r).2.length+(f (b+(AL f b r).2.length) x).2.length)),(AL f b r).2++(f (b+(AL f b r).2.length) x).2++[((f (b+(AL f b r).2.length) x).1,(AL f b r).1)])
def made:Nat->Nat->A9->PV×List (PV×PV)
 | 0,_,_=>(.nothing,[])
 | n+1,b,t=>match t with
  | .lit (.int _ m)=>(.num m,[])
  | .lit (.bool x)=>(.AT x,[])
  | .lit (.string s)=>(.name s,[])
  | .agg ts=>AL (made n) b ts
  | _=>(.nothing,[])
end Pl
def cL:Nat->Pl.A9->Prop
 | 0,_=>True
 | n+1,t=>match t with
  | .lit (.int _ m)=>gW m
  | .lit (.string s)=>s.length<=300
  | .agg ts=>∀x∈ts,cL n x
  | _=>True
namespace Pl
def quoted:A9->A9
 | .agg (_::d::_)=>d
 | t=>t
mutual
def settle:PF->Nat->PF×List (PV×PV)
 | .mk k nm d v ks ns,b =>
  if k=.const then(.mk k nm d (made 1000 b (quoted d)).1 ks ns,(made 1000 b (quoted d)).2)
  else(.mk k nm d v (AK ks b).1 ns,(AK ks b).2)
def AK:List PF->Nat->List PF×List (PV×PV)
 | [],_=>([],[])
 | x::r,b=>((settle x b).1::(AK r (b+(settle x b).2.length)).1,(settle x b).2++(AK r (b+(settle x b).2.length)).2)
end
theorem CI(nm:AE)(d:A9)(v:PV)(a:List PF)(ns:List AE)(b:Nat):settle (.mk .const nm d v a ns) b=(.mk .const nm d (made 1000 b (quoted d)).1 a ns,(made 1000 b (quoted d)).2):=by simp [settle]
theorem BC(k:FK)(nm:AE)(d:A9)(v:PV)(a:List PF)(ns:List AE)(b:Nat)(h:k≠.const):settle (.mk k nm d v a ns) b=(.mk k nm d v (AK a b).1 ns,(AK a b).2):=by simp [settle,h]
theorem BV(b:Nat):AK [] b=([],[]):=by simp [AK]
theorem BO(x:PF)(r:List PF)(b:Nat):AK (x::r) b=((settle x b).1::(AK r (b+(settle x b).2.length)).1,(settle x b).2++(AK r (b+(settle x b).2.length)).2):=by simp [AK]
theorem G9:∀(l:List PF)(b:Nat),(AK l b).1.length=l.length
 | [],_=>by simp [AK]
 | x::r,b=>by simp [AK,G9 r]
def BQ(bs:AE):Option PF:=match BX bs with
 | none=>none
 | some l=>match pd l.length l with
  | none=>none
  | some p=>BZ (l.length-1) p.t
structure PO where
 code:Nat
 out:AE
 val:AE
 deriving DecidableEq
def told(r:SR):PO:=⟨r.e,r.W.out,if r.e=0 then cut (text r.W.pairs r.S.val) else []⟩
def AR(W:PW)(f:PF):PW:={W with out:=[],pairs:=W.pairs++(settle f W.pairs.length).2}
def AV(W:PW)(f:PF):PS:=⟨some (settle f W.pairs.length).1,[],.nothing,[]⟩
def over(n:Int):Bool:=decide (n<0)||decide (1000000<n)
def answer(W:PW)(i:AE×Int):PW×PO :=
 if over i.2 then(W,⟨6,[],[]⟩)
 else if check i.1≠0 then(W,⟨check i.1,[],[]⟩)
 else match BQ i.1 with
  | none=>(W,⟨5,[],[]⟩)
  | some f=>((A8 i.2.toNat (AR W f) (AV W f)).W,told (A8 i.2.toNat (AR W f) (AV W f)))
def AF:PW->List (AE×Int)->PW×List PO
 | W,[]=>(W,[])
 | W,i::r=>((AF (answer W i).1 r).1,(answer W i).2::(AF (answer W i).1 r).2)
theorem I7:∀(l:List (AE×Int)) (W:PW) (i:AE×Int),AF W (l++[i])=((answer (AF W l).1 i).1,(AF W l).2++[(answer (AF W l).1 i).2])
 | [],_,_=>rfl
 | x::l,W,i=>by simp only [List.cons_append,AF,I7 l]
theorem PP:∀(l:List (AE×Int)) (W:PW),(AF W l).2.length=l.length
 | [],_=>rfl
 | x::l,W=>by simp [AF,PP l]
end Pl
end
open Pl (PF AU)
section
open Go.RowKit
variable {M M':Nat->Prop} {w w':World} {v:Value} {i:Nat} {T:TypeId}
def B9:TypeId:=88
def E0:TypeId:=215
def D8:TypeId:=76
def B6:TypeId:=148
structure Sg where
 tq:TypeId
 tc:TypeId
 pb:List Nat
 qb:List Nat
 cb:List Nat
 lp:List (Option (Nat×Nat))
 ns:List AE
structure Sg.Le(s t:Sg):Prop where
 tq:t.tq=s.tq
 tc:t.tc=s.tc
 pb:s.pb <+: t.pb
 qb:s.qb <+: t.qb
 cb:s.cb <+: t.cb
 lp:s.lp <+: t.lp
 ns:s.ns <+: t.ns
theorem Sg.Le.refl(s:Sg):Sg.Le s s:=⟨rfl,rfl,List.prefix_refl _,List.prefix_refl _,List.prefix_refl _,List.prefix_refl _,List.prefix_refl _⟩
theorem Sg.Le.trans{a b c:Sg}(h:Sg.Le a b)(k:Sg.Le b c):Sg.Le a c:=⟨k.tq.trans h.tq,k.tc.trans h.tc,h.pb.trans k.pb,h.qb.trans k.qb,h.cb.trans k.cb,h.lp.trans k.lp,h.ns.trans k.ns⟩
theorem bS{α:Type}{a b:List α}(h:a <+: b){x:α}(hi:a[i]?=some x):b[i]?=some x:=by obtain⟨t,rfl⟩:=h;rw [List.getElem?_append_left (s_ hi).1];exact hi
inductive RV (s:Sg):Value->PV->Prop
 | num (n:Int):RV s (.iface 187 (.int .i64 n)) (.num n)
 | AT (b:Bool):RV s (.iface 189 (.bool b)) (.AT b)
 | name (t:AE):RV s (.iface 190 (.string ⟨t.toArray⟩)) (.name t)
 | empty:RV s (.iface 212 (.agg #[])) .empty
 | nothing:RV s (.iface 192 (.agg #[])) .nothing
 | pair (i b:Nat) (h:s.pb[i]?=some b):RV s (.iface 213 (.pointer (some ⟨b,0,none⟩))) (.pair i)
 | proc (i b:Nat) (h:s.qb[i]?=some b) (hz:b≠0):RV s (.iface s.tq (.pointer (some ⟨b,0,none⟩))) (.proc i)
 | cont (i b:Nat) (h:s.cb[i]?=some b):RV s (.iface s.tc (.pointer (some ⟨b,0,none⟩))) (.cont i)
 | AZ (k:Nat) (t:AE) (h:AO[k]?=some t) (hk:k<12):RV s (.iface 86 (.int .i64 (k:Int))) (.AZ t)
 | EC:RV s (.iface 83 (.agg #[])) (.AZ AU)
theorem RV.le{s t:Sg}(l:Sg.Le s t){p:PV}(h:RV s v p):RV t v p:=by
 cases h with
 | num n=>exact .num n
 | AT b=>exact .AT b
 | name t=>exact .name t
 | empty=>exact .empty
 | nothing=>exact .nothing
 | pair i b h=>exact .pair i b (bS l.pb h)
 | proc i b h a=>rw [<- l.tq];exact .proc i b (bS l.qb h) a
 | cont i b h=>rw [<- l.tc];exact .cont i b (bS l.cb h)
 | AZ k t h c=>exact .AZ k t h c
 | EC=>exact .EC
theorem RV.iface{s:Sg}{p:PV}(h:RV s v p):∃T x,v=.iface T x:=by cases h<;>exact⟨_,_,rfl⟩
theorem RV.QL{s:Sg}{p:PV}(h:RV s v p):v.oneCell'=true:=by cases h<;>rfl
theorem p5{α:Type}{l:List α}{x y:α}(h:(l++[x])[i]?=some y):l[i]?=some y\/(i=l.length/\y=x):=by
 by_cases a:i<l.length
 ·left;rwa [List.getElem?_append_left a] at h
 ·right;rw [List.getElem?_append_right (by omega)] at h;by_cases b:i-l.length=0
  ·rw [b] at h;simp at h;exact⟨by omega,h.symm⟩
  ·rw [List.getElem?_eq_none (by simp;omega)] at h;simp at h
def BY{α β:Type}(R:α->β->Prop)(us:List α)(l:List β):Prop:=us.length=l.length/\∀(i:Nat)(u:α)(x:β),us[i]?=some u->l[i]?=some x->R u x
theorem BY.mono{α β:Type}{R Q:α->β->Prop}{us:List α}{l:List β}(h:BY R us l)(a:∀u x,R u x->Q u x):BY Q us l:=⟨h.1,fun i u x b c=>a u x (h.2 i u x b c)⟩
theorem BY.nil{α β:Type}(R:α->β->Prop):BY R [] []:=⟨rfl,fun i u x h=>by simp at h⟩
theorem BY.snoc{α β:Type}{R:α->β->Prop}{us:List α}{l:List β}(h:BY R us l){u:α}{x:β}(g:R u x):BY R (us++[u]) (l++[x]):=by
 refine⟨by simp [h.1],fun i a b c d=>?_⟩;by_cases e:i<us.length
 ·rw [List.getElem?_append_left e] at c;rw [List.getElem?_append_left (by rw [<- h.1];exact e)] at d;exact h.2 i a b c d
 ·rw [List.getElem?_append_right (by omega)] at c;rw [List.getElem?_append_right (by rw [<- h.1];omega)] at d;have j:=(s_ c).1;have f:i-us.length=0:=by simp at j;omega
  rw [f] at c;rw [<- h.1,f] at d;simp at c d;subst c d;exact g
theorem BY.cons{α β:Type}{R:α->β->Prop}{us:List α}{l:List β}(h:BY R us l){u:α}{x:β}(e:R u x):BY R (u::us) (x::l):=by
 refine⟨by simp [h.1],fun i a b c d=>?_⟩
 cases i with
 | zero=>simp at c d;subst c d;exact e
 | succ i=>simp at c d;exact h.2 i a b c d
theorem BY.drop{α β:Type}{R:α->β->Prop}{us:List α}{l:List β}(h:BY R us l)(k:Nat):BY R (us.drop k) (l.drop k):=⟨by simp [h.1],fun i a b c d=>h.2 (k+i) a b (by simpa using c) (by simpa using d)⟩
theorem BY.at_{α β:Type}{R:α->β->Prop}{us:List α}{l:List β}(h:BY R us l){x:β}(a:l[i]?=some x):∃u,us[i]?=some u/\R u x:=by have b:=(s_ a).1;have:=g_ (l:=us) (i:=i) (by rw [h.1];exact b);exact⟨_,this,h.2 i _ x this a⟩
structure BD(M:Nat->Prop)(w:World)(s:Sg)(ps:List (PV×PV)):Prop where
 len:s.pb.length=ps.length
 nodup:s.pb.Nodup
 at_:∀(i b:Nat)(p:PV×PV),s.pb[i]?=some b->ps[i]?=some p->¬M b/\∃x y,w.heap[b]?=some (.cells #[x,y] E0 (0,0))/\RV s x p.1/\RV s y p.2
theorem BD.AQ{s:Sg}{ps:List (PV×PV)}(h:BD M w s ps)(c:Stp M w M' w'):BD M' w' s ps :=
 ⟨h.len,h.nodup,fun i b p d e=>by
  obtain⟨f,x,y,a,g⟩:=h.at_ i b p d e;obtain⟨j,k⟩:=c.block b (aB a) f
  exact⟨k,x,y,j.trans a,g⟩⟩
theorem BD.le{s t:Sg}{ps:List (PV×PV)}(h:BD M w s ps)(l:Sg.Le s t)(hp:t.pb=s.pb):BD M w t ps :=
 ⟨by rw [hp];exact h.len,by rw [hp];exact h.nodup,fun i b p a c=>by
  obtain⟨d,x,y,e,f,g⟩:=h.at_ i b p (by rw [<- hp];exact a) c
  exact⟨d,x,y,e,f.le l,g.le l⟩⟩
def Sg.DD(s:Sg)(b:Nat):Sg:={s with pb:=s.pb++[b]}
theorem Sg.EK(s:Sg)(b:Nat):Sg.Le s (s.DD b):=⟨rfl,rfl,List.prefix_append _ _,List.prefix_refl _,List.prefix_refl _,List.prefix_refl _,List.prefix_refl _⟩
theorem BD.push{s:Sg}{ps:List (PV×PV)}(h:BD M w s ps)(m:∀k,M k->k<w.heap.size){x y:Value}{p:PV×PV}(n:RV s x p.1)(o:RV s y p.2) :BD M (w.alloc (.cells #[x,y] E0)) (s.DD w.heap.size) (ps++[p])/\RV (s.DD w.heap.size) (.iface 213 (.pointer (some ⟨w.heap.size,0,none⟩))) (.pair ps.length):=by
 have j:∀(i b:Nat),s.pb[i]?=some b->b<w.heap.size:=by intro i b c;have d:=(s_ c).1;obtain⟨_,x,y,g,_⟩:=h.at_ i b _ c (g_ (by rw [<- h.len];exact d));exact aB g
 refine⟨⟨by simp [Sg.DD,h.len],?_,?_⟩,.pair _ _ ?_⟩
 ·simp only [Sg.DD,List.nodup_append];refine⟨h.nodup,by simp,?_⟩;rintro a r b c;rintro rfl;simp at c;subst c;obtain⟨i,d⟩:=List.getElem?_of_mem r;have:=j i _ d;omega
 ·intro i b q c f;rcases Nat.lt_or_ge i ps.length with d | d
  ·rw [List.getElem?_append_left d] at f
   have e:s.pb[i]?=some b:=by
    have:=c;simp only [Sg.DD] at this
    rwa [List.getElem?_append_left (by rw [h.len];exact d)] at this
   obtain⟨t,u,v,g,z,A⟩:=h.at_ i b q e f;exact⟨t,u,v,(Below.heap_alloc w _ b (aB g)).trans g,z.le (s.EK _),A.le (s.EK _)⟩
  ·have B:=(s_ f).1;have l:i=ps.length:=by simp at B;omega
   subst l;simp at f;subst f;have e:b=w.heap.size:=by have:=c;simp only [Sg.DD] at this;rw [<- h.len] at this;simpa using this.symm
   subst e;exact⟨fun C=>by have:=m _ C;omega,x,y,heap_alloc_new w _,n.le (s.EK _),o.le (s.EK _)⟩
 ·simp only [Sg.DD];rw [<- h.len];simp
def isQ:Pl.A9->Bool
 | .agg _=>true
 | _=>false
def gU(s:AE)(k:Nat):List Value:=[.string ⟨s.toArray⟩,.int .i64 (k:Int)]
def nmRow(ns:List AE)(ks:List Nat):List Value:=(List.zip ns ks).flatMap fun p=>gU p.1 p.2
structure EI(M:Nat->Prop)(w:World)(s:Sg)(sl:Value)(ns:List AE):Prop where
 ex:∃ks:List Nat,BY (fun k t=>s.ns[k]?=some t) ks ns/\Sl M w B6 2 sl ns.length (nmRow ns ks)
 nodup:ns.Nodup
 len:ns.length<=1000
inductive CP (M:Nat->Prop) (w:World) (s:Sg):Value->PF->Prop
 | const (x:Value) (q:Bool) (nm:AE) (d:Pl.A9) (v:PV) (ks:List PF) (ns:List AE) (h:RV s x v) (hq:q=isQ d):CP M w s (.iface 157 (.agg #[x,.bool q])) (.mk .const nm d v ks ns)
 | name (k:Nat) (nm:AE) (d:Pl.A9) (v:PV) (ks:List PF) (ns:List AE) (h:s.ns[k]?=some nm):CP M w s (.iface 148 (.agg #[.string ⟨nm.toArray⟩,.int .i64 (k:Int)])) (.mk .name nm d v ks ns)
 | iff (a b c:Value) (x y z:PF) (nm:AE) (d:Pl.A9) (v:PV) (ns:List AE) (h1:CP M w s a x) (h2:CP M w s b y) (h3:CP M w s c z):CP M w s (.iface 202 (.agg #[a,b,c])) (.mk .iff nm d v [x,y,z] ns)
 | begin (sl:Value) (us:List Value) (nm:AE) (d:Pl.A9) (v:PV) (ks:List PF) (ns:List AE) (h1:Sl M w D8 1 sl ks.length us) (h2:us.length=ks.length) (h3:∀(i:Nat)(u:Value)(x:PF),us[i]?=some u->ks[i]?=some x->CP M w s u x) (h4:1<=ks.length) (h5:ks.length<=2000):CP M w s (.iface 204 (.agg #[sl])) (.mk .begin nm d v ks ns)
 | call (sl:Value) (us:List Value) (nm:AE) (d:Pl.A9) (v:PV) (ks:List PF) (ns:List AE) (h1:Sl M w D8 1 sl ks.length us) (h2:us.length=ks.length) (h3:∀(i:Nat)(u:Value)(x:PF),us[i]?=some u->ks[i]?=some x->CP M w s u x) (h4:1<=ks.length) (h5:ks.length<=2000):CP M w s (.iface 211 (.agg #[sl])) (.mk .call nm d v ks ns)
 | set (k:Nat) (a:Value) (x:PF) (nm:AE) (d:Pl.A9) (v:PV) (ns:List AE) (h:s.ns[k]?=some nm) (h1:CP M w s a x):CP M w s (.iface 205 (.agg #[.string ⟨nm.toArray⟩,.int .i64 (k:Int),a])) (.mk .set nm d v [x] ns)
 | define (k:Nat) (a:Value) (x:PF) (nm:AE) (d:Pl.A9) (v:PV) (ns:List AE) (h:s.ns[k]?=some nm) (h1:CP M w s a x):CP M w s (.iface 152 (.agg #[.string ⟨nm.toArray⟩,.int .i64 (k:Int),a])) (.mk .define nm d v [x] ns)
 | lambda (sl a:Value) (x:PF) (nm:AE) (d:Pl.A9) (v:PV) (ns:List AE) (h1:EI M w s sl ns) (h2:CP M w s a x):CP M w s (.iface 210 (.agg #[sl,a])) (.mk .lambda nm d v [x] ns)
theorem EI.go{s t:Sg}{sl:Value}{ns:List AE}(h:EI M w s sl ns)(a:Stp M w M' w')(l:Sg.Le s t):EI M' w' t sl ns:=by obtain⟨⟨b,c,d⟩,e,f⟩:=h;exact⟨⟨b,c.mono (fun k t g=>bS l.ns g),d.AQ a⟩,e,f⟩
theorem CP.go{s t:Sg}(o:Stp M w M' w')(l:Sg.Le s t){f:PF}(h:CP M w s v f):CP M' w' t v f:=by
 induction h with
 | const x q e d v j g h B=>exact .const x q e d v j g (h.le l) B
 | name k e d v j g h=>exact .name k e d v j g (bS l.ns h)
 | iff a b c x y z e d v g _ _ _ C D E=>exact .iff a b c x y z e d v g C D E
 | begin m p e d v j g n r _ u A i=>exact .begin m p e d v j g (n.AQ o) r i u A
 | call m p e d v j g n r _ u A i=>exact .call m p e d v j g (n.AQ o) r i u A
 | set k a x e d v g h _ i=>exact .set k a x e d v g (bS l.ns h) i
 | define k a x e d v g h _ i=>exact .define k a x e d v g (bS l.ns h) i
 | lambda m a x e d v g n _ i=>exact .lambda m a x e d v g (n.go o l) i
theorem Sl.weaken{sz:Nat}{n:Nat}{xs:List Value}(d:∀k,M' k->M k)(h:Sl M w T sz v n xs):Sl M' w T sz v n xs:=by obtain⟨f,i,a,e,j,l⟩:=h;refine⟨f,i,a,e,j,l.imp id ?_⟩;rintro⟨g,b,c,rfl,m,r⟩;exact⟨g,b,c,rfl,fun x=>m (d g x),r⟩
theorem EI.weaken{s:Sg}{sl:Value}{ns:List AE}(a:∀k,M' k->M k)(h:EI M w s sl ns):EI M' w s sl ns:=by obtain⟨⟨b,c,d⟩,e,f⟩:=h;exact⟨⟨b,c,d.weaken a⟩,e,f⟩
theorem CP.weaken{s:Sg}(n:∀k,M' k->M k){f:PF}(h:CP M w s v f):CP M' w s v f:=by
 induction h with
 | const x q e d v j g h u=>exact .const x q e d v j g h u
 | name k e d v j g h=>exact .name k e d v j g h
 | iff a b c x y z e d v g _ _ _ A B C=>exact .iff a b c x y z e d v g A B C
 | begin l o e d v j g m p _ r t i=>exact .begin l o e d v j g (m.weaken n) p i r t
 | call l o e d v j g m p _ r t i=>exact .call l o e d v j g (m.weaken n) p i r t
 | set k a x e d v g h _ i=>exact .set k a x e d v g h i
 | define k a x e d v g h _ i=>exact .define k a x e d v g h i
 | lambda l a x e d v g m _ i=>exact .lambda l a x e d v g (m.weaken n) i
theorem BD.weaken{s:Sg}{ps:List (PV×PV)}(d:∀k,M' k->M k)(h:BD M w s ps):BD M' w s ps :=⟨h.len,h.nodup,fun i b p a c=>⟨fun x=>(h.at_ i b p a c).1 (d b x),(h.at_ i b p a c).2⟩⟩
theorem CP.iface{s:Sg}{f:PF}(h:CP M w s v f):∃T x,v=.iface T x:=by cases h<;>exact⟨_,_,rfl⟩
theorem aX{α:Type}(f:α->List Value)(b:Nat)(c:∀a,(f a).length=b)(l:List α)(i j:Nat)(a:α)(hi:l[i]?=some a)(e:j<b):(l.flatMap f)[i*b+j]?=(f a)[j]? := by
 induction l generalizing i with
 | nil=>simp at hi
 | cons x l d =>
  simp only [List.flatMap_cons]
  cases i with
  | zero =>simp only [List.getElem?_cons_zero,o_] at hi;subst hi;rw [List.getElem?_append_left (by rw [c];omega)];simp
  | succ i =>rw [List.getElem?_append_right (by rw [c,Nat.add_mul];omega),c];rw [show(i+1)*b+j-b=i*b+j from by rw [Nat.add_mul];omega];exact d i (by simpa using hi)
theorem Sl.shape{sz:Nat}{n:Nat}{xs:List Value}(h:Sl M w T sz v n xs):∃b a,v=.slice b n a/\n<=a:=by obtain⟨_,b,a,e,c,_⟩:=h;exact⟨b,a,e,c⟩
theorem dH{α:Type}{l:List α}{x y:α}(h:(l++[x])[i]?=some y):l[i]?=some y\/(i=l.length/\y=x):=by
 by_cases a:i<l.length
 ·left;rwa [List.getElem?_append_left a] at h
 ·right;rw [List.getElem?_append_right (by omega)] at h;by_cases b:i-l.length=0
  ·rw [b] at h;simp at h;exact⟨by omega,h.symm⟩
  ·rw [List.getElem?_eq_none (by simp;omega)] at h;simp at h
theorem aO{c:Func}{p:Tmp}{ty:TypeId}(h:c.results=#[.cell p ty])(b:Array Value)(P:Program)(w:World) :(results c b).run P w=((asAddr (b.getD p undef)).run P w).andThen fun a d=>(loadVar ty a).run P d:=by simp only [results,h];simp [Sem.run_bind]
theorem FA{X:World}{R:Nat}{c0 c1 c2:Value}(h:X.heap[R]?=some (.cells #[c0,c1,c2] T (0,0))):X.cell? ⟨R,0,none⟩=some c0/\X.cell? ⟨R,1,none⟩=some c1/\X.cell? ⟨R,2,none⟩=some c2/\X.frozen? ⟨R,0,none⟩=false/\X.frozen? ⟨R,1,none⟩=false/\X.frozen? ⟨R,2,none⟩=false /\
  (∀a:Value,(X.setCell ⟨R,0,none⟩ a).cell? ⟨R,1,none⟩=some c1/\(X.setCell ⟨R,0,none⟩ a).frozen? ⟨R,1,none⟩=false) /\
  (∀a b:Value,((X.setCell ⟨R,0,none⟩ a).setCell ⟨R,1,none⟩ b).cell? ⟨R,2,none⟩=some c2/\((X.setCell ⟨R,0,none⟩ a).setCell ⟨R,1,none⟩ b).frozen? ⟨R,2,none⟩=false) /\
  (∀a b c:Value,(((X.setCell ⟨R,0,none⟩ a).setCell ⟨R,1,none⟩ b).setCell ⟨R,2,none⟩ c).cell? ⟨R,0,none⟩=some a/\(((X.setCell ⟨R,0,none⟩ a).setCell ⟨R,1,none⟩ b).setCell ⟨R,2,none⟩ c).cell? ⟨R,1,none⟩=some b/\(((X.setCell ⟨R,0,none⟩ a).setCell ⟨R,1,none⟩ b).setCell ⟨R,2,none⟩ c).cell? ⟨R,2,none⟩=some c):=by
 refine⟨aA h 0,aA h 1,aA h 2,aF h 0,aF h 1,aF h 2,fun a=>⟨?_,?_⟩,fun a b=>⟨?_,?_⟩,fun a b c=>⟨?_,?_,?_⟩⟩
 ·exact aA (aD h 0 a) 1
 ·exact aF (aD h 0 a) 1
 ·exact aA (aD (aD h 0 a) 1 b) 2
 ·exact aF (aD (aD h 0 a) 1 b) 2
 ·exact aA (aD (aD (aD h 0 a) 1 b) 2 c) 0
 ·exact aA (aD (aD (aD h 0 a) 1 b) 2 c) 1
 ·exact aA (aD (aD (aD h 0 a) 1 b) 2 c) 2
theorem mC(l:Env)(s:AE)(k:Nat)(h:Pl.find l s=some k):∃b∈l,b.2=k:=by
 induction l with
 | nil=>simp [Pl.find] at h
 | cons b l d =>
  unfold Pl.find at h
  cases a:Pl.find l s with
  | some j =>rw [a] at h;obtain⟨c,f,e⟩:=d (by rw [a];exact h);exact⟨c,List.mem_cons_of_mem _ f,e⟩
  | none =>
   rw [a] at h;dsimp only at h;split at h
   ·exact⟨b,List.mem_cons_self,i_ h⟩
   ·simp at h
end
end Go.Proofs.YtieooapcfpimlaaGreatDoor
