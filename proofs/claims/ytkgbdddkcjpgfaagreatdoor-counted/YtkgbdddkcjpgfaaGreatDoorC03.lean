import Derived.Test.YtkgbdddkcjpgfaaGreatDoorC01
import Derived.Lib.ItoaNum
import Derived.Deep.AppendLies
import Derived.Test.YtkgbdddkcjpgfaaGreatDoorC02
namespace Go.Proofs.YtkgbdddkcjpgfaaGreatDoor
section
namespace Pl
def ifW:List UInt8:=[105,102]
def lambdaW:List UInt8:=[108,97,109,98,100,97]
def setW:List UInt8:=[115,101,116,33]
def defineW:List UInt8:=[100,101,102,105,110,101]
def beginW:List UInt8:=[98,101,103,105,110]
def letW:List UInt8:=[108,101,116]
def kws:List (List UInt8):=[quoteW,ifW,lambdaW,setW,defineW,beginW,letW]
def kwB(s:List UInt8):Bool:=decide (s∈kws)
def isName:Tre->Bool
 | .lit (.string s)=>!kwB s
 | _=>false
def strOf:Tre->List UInt8
 | .lit (.string s)=>s
 | _=>[]
def namesOk(l:List Tre):Bool:=l.all isName&&decide ((l.map strOf).Nodup)
def isPair:Tre->Bool
 | .agg [_,_]=>true
 | _=>false
def fstOf:Tre->Tre
 | .agg (a::_)=>a
 | _=>.nil
def sndOf:Tre->Tre
 | .agg (_::b::_)=>b
 | _=>.nil
def lamOk(f:Tre->Bool)(ns body:Tre):Bool :=
 match ns with
 | .agg l=>namesOk l&&f body
 | _=>false
def letOk(f:Tre->Bool)(ps body:Tre):Bool :=
 match ps with
 | .agg l=>l.all isPair&&(namesOk (l.map fstOf)&&f body)&&(l.map sndOf).all f
 | _=>false
def asgOk(f:Tre->Bool)(r:List Tre):Bool :=
 match r with
 | [n,e]=>isName n&&f e
 | _=>false
def lam2(f:Tre->Bool)(r:List Tre):Bool :=
 match r with
 | [n,e]=>lamOk f n e
 | _=>false
def let2(f:Tre->Bool)(r:List Tre):Bool :=
 match r with
 | [n,e]=>letOk f n e
 | _=>false
def j7(f:Tre->Bool)(h:List UInt8)(r:List Tre):Bool :=
 if h=quoteW then r.length==1
 else if h=ifW then r.length==3&&r.all f
 else if h=beginW then !r.isEmpty&&r.all f
 else if h=setW then asgOk f r
 else if h=lambdaW then lam2 f r
 else if h=letW then let2 f r
 else false
def headKw:List Tre->Option (List UInt8)
 | .lit (.string h)::_=>if kwB h then some h else none
 | _=>none
def cA(f:Tre->Bool)(ks:List Tre):Bool :=
 match ks with
 | []=>false
 | k::r=>match headKw (k::r) with
  | some h=>j7 f h r
  | none=>f k&&r.all f
def isForm:Nat->Tre->Bool
 | 0,_=>false
 | n+1,t=>match t with
  | .lit (.int _ _)=>true
  | .lit (.bool _)=>true
  | .lit (.string s)=>!kwB s
  | .agg ks=>cA (isForm n) ks
  | _=>false
def isTop(n:Nat)(t:Tre):Bool :=
 match t with
 | .agg (.lit (.string h)::r)=>if h=defineW then asgOk (isForm n) r else isForm (n+1) t
 | _=>isForm (n+1) t
theorem kwB_sound(s:List UInt8):kwB s=true↔s∈kws:=by simp [kwB]
end Pl
namespace Pl
abbrev Byt:=List UInt8
inductive PV where
 | num (n:Int)
 | truth (b:Bool)
 | name (s:Byt)
 | empty
 | nothing
 | pair (n:Nat)
 | proc (n:Nat)
 | cont (n:Nat)
 | prim (s:Byt)
 deriving DecidableEq
inductive FK where
 | const
 | name
 | iff
 | set
 | define
 | lambda
 | begin
 | call
 deriving DecidableEq
inductive PF where
 | mk (k:FK) (nm:Byt) (d:Tre) (v:PV) (ks:List PF) (ns:List Byt)
namespace PF
def k:PF->FK
 | .mk k _ _ _ _ _=>k
def nm:PF->Byt
 | .mk _ nm _ _ _ _=>nm
def d:PF->Tre
 | .mk _ _ d _ _ _=>d
def v:PF->PV
 | .mk _ _ _ v _ _=>v
def ks:PF->List PF
 | .mk _ _ _ _ ks _=>ks
def ns:PF->List Byt
 | .mk _ _ _ _ _ ns=>ns
end PF
abbrev Env:=List (Byt×Nat)
structure PFr where
 form:PF
 got:List PV
 pos:Nat
 env:Env
structure PW where
 pairs:List (PV×PV)
 procs:List (PF×Env)
 conts:List (List PFr)
 places:List PV
 globals:Env
 out:Byt
structure PS where
 form:Option PF
 env:Env
 val:PV
 frames:List PFr
structure SR where
 e:Nat
 W:PW
 S:PS
def find:Env->Byt->Option Nat
 | [],_=>none
 | b::r,s=>match find r s with
  | some k=>some k
  | none=>if b.1=s then some b.2 else none
theorem find_append(a b:Env)(s:Byt):find (a++b) s=match find b s with
  | some k=>some k
  | none=>find a s:=by
 induction a with
 | nil=>simp only [List.nil_append];cases find b s<;>rfl
 | cons x a ih =>
  simp only [List.cons_append,find,ih]
  cases find b s<;>rfl
def seek(W:PW)(env:Env)(s:Byt):Option Nat:=match find env s with
 | some k=>some k
 | none=>find W.globals s
def bind(W:PW)(s:Byt)(v:PV):PW:=match find W.globals s with
 | some k=>{W with places:=W.places.set k v}
 | none=>{W with places:=W.places++[v],globals:=W.globals++[(s,W.places.length)]}
def PS.give(S:PS)(v:PV):PS:={S with form:=none,val:=v}
def PS.work(S:PS)(f:Option PF)(env:Env):PS:={S with form:=f,env:=env}
def PS.push(S:PS)(f:PFr):PS:={S with frames:=f::S.frames}
def numb(l:List Byt)(n:Nat):Env:=match l with
 | []=>[]
 | s::r=>(s,n)::numb r (n+1)
def itoa(n:Int):Byt:=Lib.itoa n
def procW:Byt:=[35,112,114,111,99,101,100,117,114,101]
def atomT:PV->Byt
 | .num n=>itoa n
 | .truth b=>if b then [35,116] else [35,102]
 | .name s=>s
 | .empty=>[40,41]
 | .nothing=>[]
 | .pair _=>[]
 | _=>procW
mutual
def txt(ps:List (PV×PV)):Nat->PV->Byt
 | 0,_=>[]
 | n+1,.pair i=>match ps[i]? with
  | some p=>40::(txt ps n p.1++j8 ps n p.2)
  | none=>[]
 | _+1,v=>atomT v
def j8(ps:List (PV×PV)):Nat->PV->Byt
 | 0,_=>[]
 | n+1,.pair i=>match ps[i]? with
  | some p=>32::(txt ps n p.1++j8 ps n p.2)
  | none=>[]
 | _+1,.empty=>[41]
 | _+1,v=>[32,46,32]++atomT v++[41]
end
def rank:PV->Nat
 | .pair i=>i+1
 | _=>0
def text(ps:List (PV×PV))(v:PV):Byt:=txt ps (rank v+1) v
def cut(s:Byt):Byt:=if 200<s.length then s.take 200++[46,46] else s
def plusW:Byt:=[43]
def minusW:Byt:=[45]
def timesW:Byt:=[42]
def lessW:Byt:=[60]
def eqW:Byt:=[61]
def consW:Byt:=[99,111,110,115]
def carW:Byt:=[99,97,114]
def cdrW:Byt:=[99,100,114]
def nullW:Byt:=[110,117,108,108,63]
def pairW:Byt:=[112,97,105,114,63]
def sameW:Byt:=[101,113,63]
def displayW:Byt:=[100,105,115,112,108,97,121]
def callccW:Byt:=[99,97,108,108,47,99,99]
def prims:List Byt:=[plusW,minusW,timesW,lessW,eqW,consW,carW,cdrW,nullW,pairW,sameW,displayW,callccW]
def arity(s:Byt):Nat:=if s=carW\/s=cdrW\/s=nullW\/s=pairW\/s=displayW\/s=callccW then 1 else 2
def reckon(W:PW)(S:PS)(s:Byt)(a b:PV):SR:=match a,b with
 | .num x,.num y =>
  if s=lessW then⟨0,W,S.give (.truth (decide (x<y)))⟩
  else if s=eqW then⟨0,W,S.give (.truth (decide (x=y)))⟩
  else
   let n:=if s=plusW then x+y else if s=minusW then x-y else x*y
   if n.natAbs<=Pl.big then⟨0,W,S.give (.num n)⟩ else⟨11,W,S⟩
 | _,_=>⟨9,W,S⟩
def isPairV:PV->Bool
 | .pair _=>true
 | _=>false
def prim1(W:PW)(S:PS)(s:Byt)(a:PV):SR :=
 if s=displayW then
  let t:=cut (text W.pairs a)
  if W.out.length+t.length<=1000 then⟨0,{W with out:=W.out++t},S.give .nothing⟩ else⟨11,W,S⟩
 else if s=carW\/s=cdrW then match a with
  | .pair i=>match W.pairs[i]? with
   | some p=>⟨0,W,S.give (if s=cdrW then p.2 else p.1)⟩
   | none=>⟨9,W,S⟩
  | _=>⟨9,W,S⟩
 else if s=nullW then⟨0,W,S.give (.truth (decide (a=.empty)))⟩
 else⟨0,W,S.give (.truth (isPairV a))⟩
def prim2(W:PW)(S:PS)(s:Byt)(a b:PV):SR :=
 if s=consW then⟨0,{W with pairs:=W.pairs++[(a,b)]},S.give (.pair W.pairs.length)⟩
 else if s=sameW then⟨0,W,S.give (.truth (decide (a=b)))⟩
 else reckon W S s a b
def applyB(W:PW)(S:PS)(f:PV)(args:List PV):SR:=match f with
 | .proc i=>match W.procs[i]? with
  | some p=>if args.length≠p.1.ns.length then⟨10,W,S⟩
   else⟨0,{W with places:=W.places++args},S.work p.1.ks[0]? (p.2++numb p.1.ns W.places.length)⟩
  | none=>⟨9,W,S⟩
 | .cont i=>match args with
  | [a]=>⟨0,W,{S with frames:=W.conts[i]?.getD []}.give a⟩
  | _=>⟨10,W,S⟩
 | .prim s=>if args.length≠arity s then⟨10,W,S⟩ else match args with
  | [a]=>prim1 W S s a
  | [a,b]=>prim2 W S s a b
  | _=>⟨10,W,S⟩
 | _=>⟨9,W,S⟩
def PW.keep(W:PW)(S:PS):PW:={W with conts:=W.conts++[S.frames]}
def apply(W:PW)(S:PS)(f:PV)(args:List PV):SR :=
 if f=.prim callccW then match args with
  | [a] =>
   let c:=PV.cont W.conts.length
   if a=.prim callccW then applyB ((W.keep S).keep S) S c [.cont (W.conts.length+1)]
   else applyB (W.keep S) S a [c]
  | _=>⟨10,W,S⟩
 else applyB W S f args
def taken(W:PW)(S:PS):SR:=match S.frames with
 | []=>⟨9,W,S⟩
 | fr::rest =>
  let S1:={S with frames:=rest}
  match fr.form.k with
  | .iff=>⟨0,W,S1.work (if S.val=.truth false then fr.form.ks[2]? else fr.form.ks[1]?) fr.env⟩
  | .set=>match seek W fr.env fr.form.nm with
   | some k=>⟨0,{W with places:=W.places.set k S.val},S1.give .nothing⟩
   | none=>⟨8,W,S1⟩
  | .define=>⟨0,bind W fr.form.nm S.val,S1.give .nothing⟩
  | .begin=>⟨0,W,(if fr.pos+1<fr.form.ks.length then S1.push {fr with got:=[],pos:=fr.pos+1} else S1).work fr.form.ks[fr.pos]? fr.env⟩
  | _ =>
   let got:=fr.got++[S.val]
   if fr.pos=fr.form.ks.length then match got with
    | []=>⟨9,W,S1⟩
    | g::args=>apply W S1 g args
   else⟨0,W,(S1.push {fr with got:=got,pos:=fr.pos+1}).work fr.form.ks[fr.pos]? fr.env⟩
def step(W:PW)(S:PS):SR:=match S.form with
 | none=>taken W S
 | some f=>match f.k with
  | .const=>⟨0,W,S.give f.v⟩
  | .name=>match seek W S.env f.nm with
   | some k=>⟨0,W,S.give (W.places[k]?.getD .nothing)⟩
   | none=>⟨8,W,S⟩
  | .lambda=>⟨0,{W with procs:=W.procs++[(f,S.env)]},S.give (.proc W.procs.length)⟩
  | .begin=>⟨0,W,(if 1<f.ks.length then S.push ⟨f,[],1,S.env⟩ else S).work f.ks[0]? S.env⟩
  | _=>⟨0,W,(S.push ⟨f,[],1,S.env⟩).work f.ks[0]? S.env⟩
def PS.ended(S:PS):Bool:=S.form.isNone&&S.frames.isEmpty
def goOn:Nat->PW->PS->SR
 | 0,W,S=>if S.ended then⟨0,W,S⟩ else⟨7,W,S⟩
 | n+1,W,S=>if S.ended then⟨0,W,S⟩ else
  let r:=step W S
  if r.e=0 then goOn n r.W r.S else r
end Pl
end
open Pl (PV PW PF PFr Byt Env FK prims)
section
open Go.RowKit
variable {w w':World} {M M':Nat->Prop} {v:Value}
def TV:TypeId:=154
def TB:TypeId:=249
def TPa:TypeId:=263
def TPc:TypeId:=186
def TFrP:TypeId:=172
def TFr:TypeId:=176
def TFo:TypeId:=182
def TFP:TypeId:=69
def TSt:TypeId:=174
def TWd:TypeId:=96
def TS:TypeId:=9
def byV(s:Byt):Value:=.string ⟨s.toArray⟩
def kPair:Byt:=[112,97,105,114]
def kProc:Byt:=[112,114,111,99,101,100,117,114,101]
def kCont:Byt:=[99,111,110,116,105,110,117,97,116,105,111,110]
def kPrim:Byt:=[112,114,105,109,105,116,105,118,101]
def kEmp:Byt:=[101,109,112,116,121]
def kNot:Byt:=[110,111,116,104,105,110,103]
def kNu:Byt:=[110,117,109,98,101,114]
def kTr:Byt:=[116,114,117,116,104]
def kNa:Byt:=[110,97,109,101]
def vK:PV->Byt
 | .num _=>kNu
 | .truth _=>kTr
 | .name _=>kNa
 | .empty=>kEmp
 | .nothing=>kNot
 | .pair _=>kPair
 | .proc _=>kProc
 | .cont _=>kCont
 | .prim _=>kPrim
def vN:PV->Int
 | .num n=>n
 | .truth b=>if b then 1 else 0
 | .pair n=>n
 | .proc n=>n
 | .cont n=>n
 | _=>0
def vS:PV->Byt
 | .name s=>s
 | .prim s=>s
 | _=>[]
def cZ(v:PV):List Value:=[byV (vK v),.int .i64 (vN v),byV (vS v)]
def encB(b:Byt×Nat):List Value:=[byV b.1,.int .i64 b.2]
def encP(p:PV×PV):List Value:=cZ p.1++cZ p.2
def Sl(M:Nat->Prop)(w:World)(T:TypeId)(sz:Nat)(v:Value)(n:Nat)(xs:List Value):Prop :=xs.length=n*sz/\∃ao cap,v=.slice ao n cap/\n<=cap/\(n=0\/∃g off cur,ao=some ⟨g,off,none⟩/\¬M g/\w.heap[g]?=some (.cells cur T (0,0))/\∀(i:Nat)(u:Value),xs[i]?=some u->cur[off+i]?=some u)
def EnvAt(M:Nat->Prop)(w:World)(v:Value)(env:Env):Prop:=Sl M w TB 2 v env.length (env.flatMap encB)
def GotAt(M:Nat->Prop)(w:World)(v:Value)(l:List PV):Prop:=Sl M w TV 3 v l.length (l.flatMap cZ)
def fkS:FK->Byt
 | .const=>[99,111,110,115,116]
 | .name=>kNa
 | .iff=>Pl.ifW
 | .set=>Pl.setW
 | .define=>Pl.defineW
 | .lambda=>Pl.lambdaW
 | .begin=>Pl.beginW
 | .call=>[99,97,108,108]
def shape:FK->Nat->Prop
 | .const,n=>n=0
 | .name,n=>n=0
 | .iff,n=>n=3
 | .set,n=>n=1
 | .define,n=>n=1
 | .lambda,n=>n=1
 | .begin,n=>1<=n
 | .call,n=>1<=n
def RepS:Nat->World->Value->PF->Prop
 | 0,_,_,_=>False
 | n+1,w,v,.mk k nm d pv ks ns=>∃b dv kv nv c0 c1 c2 us,v=.pointer (some ⟨b,0,none⟩) /\
   w.heap[b]?=some (.cells #[byV (fkS k),byV nm,dv,kv,nv,c0,c1,c2] TFo (0,0)) /\
   w.ownsRow 0 TFP 1 kv ks.length us/\(∀(i:Nat)(u:Value)(x:PF),us[i]?=some u->ks[i]?=some x->RepS n w u x) /\
   w.ownsRow 0 TS 1 nv ns.length (ns.map byV)/\(k=.const->[c0,c1,c2]=cZ pv/\∃m,RepR (fun _=>True) m w dv d)/\shape k ks.length/\ks.length<=1000/\ns.length<=1000
def RF(w:World)(v:Value)(f:PF):Prop:=∃n,RepS n w v f
def FrAt(M:Nat->Prop)(w:World):Value->List PFr->Prop
 | v,[]=>v=.pointer none
 | v,f::r=>∃b fv gv ev up,v=.pointer (some ⟨b,0,none⟩)/\w.heap[b]?=some (.cells #[fv,gv,.int .i64 f.pos,ev,up,.int .i64 (r.length+1:Nat)] TFr (0,0)) /\
   RF w fv f.form/\GotAt M w gv f.got/\EnvAt M w ev f.env/\FrAt M w up r
def imT(e:TypeId):Prop:=e=TD\/e=TP\/e=TFo\/e=TFP\/e=TS\/e=TFr
def KeepI(w w':World):Prop:=∀(k:Nat)(cur:Array Value)(e:TypeId),imT e->w.heap[k]?=some (.cells cur e (0,0))->w'.heap[k]?=some (.cells cur e (0,0))
structure Stp(M:Nat->Prop)(w:World)(M':Nat->Prop)(w':World):Prop where
 os:w'.os=w.os
 tape:w'.tape=w.tape
 output:w'.output=w.output
 size:w.heap.size<=w'.heap.size
 block:∀k,k<w.heap.size->¬M k->w'.heap[k]?=w.heap[k]? /\ ¬M' k
theorem Stp.refl(M:Nat->Prop)(w:World):Stp M w M w:=⟨rfl,rfl,rfl,Nat.le_refl _,fun _ _ h=>⟨rfl,h⟩⟩
theorem Stp.trans{M1 M2 M3:Nat->Prop}{a b c:World}(h:Stp M1 a M2 b)(k:Stp M2 b M3 c):Stp M1 a M3 c :=
 ⟨k.os.trans h.os,k.tape.trans h.tape,k.output.trans h.output,Nat.le_trans h.size k.size,fun i hi hn=>by
  obtain⟨h1,h2⟩:=h.block i hi hn;obtain⟨h3,h4⟩:=k.block i (Nat.lt_of_lt_of_le hi h.size) h2
  exact⟨h3.trans h1,h4⟩⟩
theorem Stp.of_below(h:Below w.heap.size w w'):Stp M w M w':=⟨h.os,h.tape,h.output,h.size,fun k hk hn=>⟨h.block k hk,hn⟩⟩
theorem Stp.of_grown{row:Option Nat}(h:w.grownBy w' row)(hr:∀k,row=some k->M k):Stp M w M w' :=⟨h.os,h.tape,h.output,h.size,fun k hk hn=>⟨h.block k hk (fun e=>hn (hr k e.symm)),hn⟩⟩
def Mty(M:Nat->Prop)(w:World):Prop:=∀k cur e,M k->w.heap[k]?=some (.cells cur e (0,0))->¬imT e
theorem Stp.keepI(h:Stp M w M' w')(ht:Mty M w):KeepI w w':=fun k cur e hi hb =>(h.block k (aB hb) (fun hm=>ht k cur e hm hb hi)).1.trans hb
theorem KeepI.keepD(h:KeepI w w'):KeepD (fun _=>True) w w':=fun k cur e _ ht hb=>h k cur e (ht.elim .inl (fun x=>.inr (.inl x))) hb
theorem f9{n:Nat}{xs:List Value}{T:TypeId}(hk:KeepI w w')(ht:imT T)(h:w.ownsRow 0 T 1 v n xs):w'.ownsRow 0 T 1 v n xs:=by
 refine⟨h.1,?_⟩;rcases h.2 with hn | ⟨g,cap,cur,rfl,hb,hg,rest⟩
 ·exact .inl hn
 ·exact .inr ⟨g,cap,cur,rfl,hb,hk g cur T ht hg,rest⟩
theorem RepS.keep(hk:KeepI w w'):∀(n:Nat)(v:Value)(f:PF),RepS n w v f->RepS n w' v f
 | 0,_,_,h=>h
 | n+1,v,.mk k nm d pv ks ns,h=>by
  obtain⟨b,dv,kv,nv,c0,c1,c2,us,hv,hb,h1,h2,h3,h4,h5⟩:=h
  exact⟨b,dv,kv,nv,c0,c1,c2,us,hv,hk b _ _ (.inr (.inr (.inl rfl))) hb,f9 hk (.inr (.inr (.inr (.inl rfl)))) h1,fun i u x hu hx=>RepS.keep hk n u x (h2 i u x hu hx),
   f9 hk (.inr (.inr (.inr (.inr (.inl rfl))))) h3,fun e=>⟨(h4 e).1,(h4 e).2.elim fun m hm=>⟨m,RepR.keep hk.keepD _ _ _ hm⟩⟩,h5⟩
theorem RF.keep(hk:KeepI w w'){f:PF}(h:RF w v f):RF w' v f:=h.elim fun n hn=>⟨n,RepS.keep hk n v f hn⟩
theorem Sl.stp{T:TypeId}{sz:Nat}{n:Nat}{xs:List Value}(h:Stp M w M' w')(hs:Sl M w T sz v n xs):Sl M' w' T sz v n xs:=by obtain⟨h0,ao,cap,rfl,h2,h3⟩:=hs;refine⟨h0,ao,cap,rfl,h2,h3.imp id ?_⟩;rintro⟨g,off,cur,rfl,hm,hg,hc⟩;obtain⟨e1,e2⟩:=h.block g (aB hg) hm;exact⟨g,off,cur,rfl,e2,e1.trans hg,hc⟩
theorem FrAt.stp(h:Stp M w M' w')(ht:Mty M w):∀(v:Value)(l:List PFr),FrAt M w v l->FrAt M' w' v l
 | _,[],hf=>hf
 | _,_::r,hf=>by obtain⟨b,fv,gv,ev,up,hv,hb,h1,h2,h3,h4⟩:=hf;exact⟨b,fv,gv,ev,up,hv,h.keepI ht b _ _ (.inr (.inr (.inr (.inr (.inr rfl))))) hb,h1.keep (h.keepI ht),h2.stp h,h3.stp h,FrAt.stp h ht up r h4⟩
def WfV(W:PW):PV->Prop
 | .num n=>n.natAbs<=Pl.big
 | .pair i=>i<W.pairs.length
 | .proc i=>i<W.procs.length
 | .cont i=>i<W.conts.length
 | .prim s=>s∈prims
 | .name s=>s.length<=300
 | _=>True
def WfE(W:PW)(env:Env):Prop:=∀b∈env,b.2<W.places.length
end
section
namespace Pl
def mkF(k:FK)(nm:Byt)(d:Tre)(ks:List PF)(ns:List Byt):PF:=.mk k nm d .nothing ks ns
def allF(f:Tre->Option PF):List Tre->Option (List PF)
 | []=>some []
 | x::r=>(f x).bind fun a=>(allF f r).map fun l=>a::l
def lamF(f:Tre->Option PF)(ns body:Tre):Option PF:=match ns with
 | .agg l=>if namesOk l then(f body).map fun b=>mkF .lambda [] .nil [b] (l.map strOf) else none
 | _=>none
def letF(f:Tre->Option PF)(ps body:Tre):Option PF:=match ps with
 | .agg l=>if l.all isPair then(lamF f (.agg (l.map fstOf)) body).bind fun h=>(allF f (l.map sndOf)).map fun r=>mkF .call [] .nil (h::r) [] else none
 | _=>none
def asgF(k:FK)(f:Tre->Option PF)(r:List Tre):Option PF:=match r with
 | [n,e]=>if isName n then(f e).map fun b=>mkF k (strOf n) .nil [b] [] else none
 | _=>none
def lam2F(f:Tre->Option PF)(r:List Tre):Option PF:=match r with
 | [n,e]=>lamF f n e
 | _=>none
def let2F(f:Tre->Option PF)(r:List Tre):Option PF:=match r with
 | [n,e]=>letF f n e
 | _=>none
def keyF(f:Tre->Option PF)(t:Tre)(h:List UInt8)(r:List Tre):Option PF :=
 if h=quoteW then(if r.length==1 then some (mkF .const [] t [] []) else none)
 else if h=ifW then(if r.length==3 then(allF f r).map fun l=>mkF .iff [] .nil l [] else none)
 else if h=beginW then(if !r.isEmpty then(allF f r).map fun l=>mkF .begin [] .nil l [] else none)
 else if h=setW then asgF .set f r
 else if h=lambdaW then lam2F f r
 else if h=letW then let2F f r
 else none
def listF(f:Tre->Option PF)(ks:List Tre):Option PF:=match ks with
 | []=>none
 | k::r=>match headKw (k::r) with
  | some h=>keyF f (.agg (k::r)) h r
  | none=>(allF f (k::r)).map fun l=>mkF .call [] .nil l []
def formOf:Nat->Tre->Option PF
 | 0,_=>none
 | n+1,t=>match t with
  | .lit (.int k m)=>some (mkF .const [] (.lit (.int k m)) [] [])
  | .lit (.bool x)=>some (mkF .const [] (.lit (.bool x)) [] [])
  | .lit (.string s)=>if kwB s then none else some (mkF .name s .nil [] [])
  | .agg ks=>listF (formOf n) ks
  | _=>none
def topOf(n:Nat)(t:Tre):Option PF:=match t with
 | .agg (.lit (.string h)::r)=>if h=defineW then asgF .define (formOf n) r else formOf (n+1) t
 | _=>formOf (n+1) t
theorem eS(f:Tre->Option PF)(l:List Tre):(allF f l).isSome=l.all fun x=>(f x).isSome:=by
 induction l with
 | nil=>rfl
 | cons x r ih =>
  unfold allF
  cases hx:f x with
  | none=>simp [hx]
  | some a =>simp only [Option.bind_some,Option.isSome_map,List.all_cons,hx,Option.isSome_some,Bool.true_and];exact ih
theorem gL(b:Bool)(o:Option PF):(if b=true then o else none).isSome=(b&&o.isSome):=by cases b<;>simp
theorem nU(f:Tre->Option PF)(ns body:Tre):(lamF f ns body).isSome=lamOk (fun x=>(f x).isSome) ns body:=by
 cases ns with
 | agg l =>
  show(if namesOk l=true then(f body).map (fun b=>mkF .lambda [] .nil [b] (l.map strOf)) else none).isSome=(namesOk l&&(f body).isSome)
  rw [gL,Option.isSome_map]
 | _=>rfl
theorem vX(f:Tre->Option PF)(ps body:Tre):(letF f ps body).isSome=letOk (fun x=>(f x).isSome) ps body:=by
 cases ps with
 | agg l =>
  show(if l.all isPair=true then(lamF f (.agg (l.map fstOf)) body).bind (fun h=>(allF f (l.map sndOf)).map fun r=>mkF .call [] .nil (h::r) []) else none).isSome=(l.all isPair&&(namesOk (l.map fstOf)&&(f body).isSome)&&(l.map sndOf).all fun x=>(f x).isSome)
  have h1:(lamF f (.agg (l.map fstOf)) body).isSome=(namesOk (l.map fstOf)&&(f body).isSome):=nU f _ _;rw [gL,<-h1,<-eS]
  cases lamF f (.agg (l.map fstOf)) body<;>simp
 | _=>rfl
theorem asgF_some(k:FK)(f:Tre->Option PF)(r:List Tre):(asgF k f r).isSome=asgOk (fun x=>(f x).isSome) r:=by
 match r with
 | []=>rfl
 | [_]=>rfl
 | [n,e] =>
  show(if isName n=true then(f e).map (fun b=>mkF k (strOf n) .nil [b] []) else none).isSome=(isName n&&(f e).isSome)
  rw [gL,Option.isSome_map]
 | _::_::_::_=>rfl
theorem sX(f:Tre->Option PF)(r:List Tre):(lam2F f r).isSome=lam2 (fun x=>(f x).isSome) r:=by
 match r with
 | []=>rfl
 | [_]=>rfl
 | [n,e]=>exact nU f n e
 | _::_::_::_=>rfl
theorem sW(f:Tre->Option PF)(r:List Tre):(let2F f r).isSome=let2 (fun x=>(f x).isSome) r:=by
 match r with
 | []=>rfl
 | [_]=>rfl
 | [n,e]=>exact vX f n e
 | _::_::_::_=>rfl
theorem wD(f:Tre->Option PF)(t:Tre)(h:List UInt8)(r:List Tre):(keyF f t h r).isSome=j7 (fun x=>(f x).isSome) h r:=by
 unfold keyF j7;have ha:=eS f r;by_cases h1:h=quoteW
 ·rw [if_pos h1,if_pos h1,gL];simp
 rw [if_neg h1,if_neg h1];by_cases h2:h=ifW
 ·rw [if_pos h2,if_pos h2,gL,Option.isSome_map,ha]
 rw [if_neg h2,if_neg h2];by_cases h3:h=beginW
 ·rw [if_pos h3,if_pos h3,gL,Option.isSome_map,ha]
 rw [if_neg h3,if_neg h3];by_cases h4:h=setW
 ·rw [if_pos h4,if_pos h4];exact asgF_some _ f r
 rw [if_neg h4,if_neg h4];by_cases h5:h=lambdaW
 ·rw [if_pos h5,if_pos h5];exact sX f r
 rw [if_neg h5,if_neg h5];by_cases h6:h=letW
 ·rw [if_pos h6,if_pos h6];exact sW f r
 rw [if_neg h6,if_neg h6];rfl
theorem sV(f:Tre->Option PF)(ks:List Tre):(listF f ks).isSome=cA (fun x=>(f x).isSome) ks:=by
 cases ks with
 | nil=>rfl
 | cons k r =>
  unfold listF cA;dsimp only
  cases headKw (k::r) with
  | some h=>exact wD f _ h r
  | none =>dsimp only;rw [Option.isSome_map,eS];simp
theorem formOf_some:∀(n:Nat)(t:Tre),(formOf n t).isSome=isForm n t
 | 0,_=>rfl
 | n+1,t=>by
  have hf:(fun x=>(formOf n x).isSome)=isForm n:=funext (formOf_some n)
  cases t with
  | lit x =>
   cases x with
   | string s =>
    show(if kwB s=true then none else some (mkF .name s .nil [] [])).isSome=!kwB s
    cases kwB s<;>rfl
   | _=>rfl
  | agg ks =>show(listF (formOf n) ks).isSome=cA (isForm n) ks;rw [sV,hf]
  | _=>rfl
end Pl
namespace Pl
def goodTok(t:Tok):Bool:=!(inW (t.headD 0))||(isNum t||noDig t)
def check(bs:List UInt8):Nat :=
 if 300<bs.length then 1
 else match toks bs with
  | none=>2
  | some l =>
   if l.all goodTok=false then 2
   else match pd l.length l with
    | none=>2
    | some p =>
     if p.q≠[] then 2
     else if 20<p.dp then 3
     else if p.gr=true then 4
     else if isTop (l.length-1) p.t=true then 0 else 5
theorem fP:∀(n:Nat)(bs:List UInt8)(l:List Tok),tkF n bs=some l->l.length<=bs.length/\∀t∈l,0<t.length/\t.length<=bs.length
 | 0,_,_,h=>by obtain rfl:=Option.some.inj h;simp
 | _+1,[],_,h=>by obtain rfl:=Option.some.inj h;simp
 | n+1,c::r,l,h=>by
  unfold tkF at h;split at h
  ·have ih:=fP n r l h;refine⟨by simp;omega,fun t ht=>⟨(ih.2 t ht).1,by have:=(ih.2 t ht).2;simp;omega⟩⟩
  split at h
  ·cases r with
   | nil=>simp at h
   | cons d q =>
    dsimp only at h;split at h
    ·simp only [Option.map_eq_some_iff] at h;obtain⟨l1,h1,rfl⟩:=h;have ih:=fP n q l1 h1;refine⟨by simp;omega,fun t ht=>?_⟩;rcases List.mem_cons.1 ht with rfl | ht
     ·simp
     ·exact⟨(ih.2 t ht).1,by have:=(ih.2 t ht).2;simp;omega⟩
    ·simp at h
  split at h
  ·simp only [Option.map_eq_some_iff] at h;obtain⟨l1,h1,rfl⟩:=h;have ih:=fP n _ l1 h1;have hd:=eQ inW r;have hta:(r.takeWhile inW).length<=r.length:=(List.takeWhile_sublist inW).length_le;refine⟨by simp;omega,fun t ht=>?_⟩;rcases List.mem_cons.1 ht with rfl | ht
   ·simp;omega
   ·exact⟨(ih.2 t ht).1,by have:=(ih.2 t ht).2;simp;omega⟩
  split at h
  ·simp only [Option.map_eq_some_iff] at h;obtain⟨l1,h1,rfl⟩:=h;have ih:=fP n r l1 h1;refine⟨by simp;omega,fun t ht=>?_⟩;rcases List.mem_cons.1 ht with rfl | ht
   ·simp
   ·exact⟨(ih.2 t ht).1,by have:=(ih.2 t ht).2;simp;omega⟩
  ·simp at h
theorem toks_size{bs:List UInt8}{l:List Tok}(h:toks bs=some l):l.length<=bs.length/\∀t∈l,0<t.length/\t.length<=bs.length:=fP _ _ _ h
end Pl
namespace Pl
def madeL(f:Nat->Tre->PV×List (PV×PV))(b:Nat):List Tre->PV×List (PV×PV)
 | []=>(.empty,[])
 | x::r=>((.pair (b+(madeL f b r).2.length+(f (b+(madeL f b r).2.length) x).2.length)),(madeL f b r).2++(f (b+(madeL f b r).2.length) x).2++[((f (b+(madeL f b r).2.length) x).1,(madeL f b r).1)])
def made:Nat->Nat->Tre->PV×List (PV×PV)
 | 0,_,_=>(.nothing,[])
 | n+1,b,t=>match t with
  | .lit (.int _ m)=>(.num m,[])
  | .lit (.bool x)=>(.truth x,[])
  | .lit (.string s)=>(.name s,[])
  | .agg ts=>madeL (made n) b ts
  | _=>(.nothing,[])
end Pl
def cL:Nat->Pl.Tre->Prop
 | 0,_=>True
 | n+1,t=>match t with
  | .lit (.int _ m)=>gW m
  | .lit (.string s)=>s.length<=300
  | .agg ts=>∀x∈ts,cL n x
  | _=>True
namespace Pl
def quoted:Tre->Tre
 | .agg (_::d::_)=>d
 | t=>t
mutual
def settle:PF->Nat->PF×List (PV×PV)
 | .mk k nm d v ks ns,b =>
  if k=.const then(.mk k nm d (made 1000 b (quoted d)).1 ks ns,(made 1000 b (quoted d)).2)
  else(.mk k nm d v (settleL ks b).1 ns,(settleL ks b).2)
def settleL:List PF->Nat->List PF×List (PV×PV)
 | [],_=>([],[])
 | x::r,b=>((settle x b).1::(settleL r (b+(settle x b).2.length)).1,(settle x b).2++(settleL r (b+(settle x b).2.length)).2)
end
theorem settle_const(nm:Byt)(d:Tre)(v:PV)(ks:List PF)(ns:List Byt)(b:Nat):settle (.mk .const nm d v ks ns) b=(.mk .const nm d (made 1000 b (quoted d)).1 ks ns,(made 1000 b (quoted d)).2):=by simp [settle]
theorem settle_other(k:FK)(nm:Byt)(d:Tre)(v:PV)(ks:List PF)(ns:List Byt)(b:Nat)(h:k≠.const):settle (.mk k nm d v ks ns) b=(.mk k nm d v (settleL ks b).1 ns,(settleL ks b).2):=by simp [settle,h]
theorem settleL_nil(b:Nat):settleL [] b=([],[]):=by simp [settleL]
theorem settleL_cons(x:PF)(r:List PF)(b:Nat):settleL (x::r) b=((settle x b).1::(settleL r (b+(settle x b).2.length)).1,(settle x b).2++(settleL r (b+(settle x b).2.length)).2):=by simp [settleL]
theorem settleL_len:∀(l:List PF)(b:Nat),(settleL l b).1.length=l.length
 | [],_=>by simp [settleL]
 | x::r,b=>by simp [settleL,settleL_len r]
def readF(bs:Byt):Option PF:=match toks bs with
 | none=>none
 | some l=>match pd l.length l with
  | none=>none
  | some p=>topOf (l.length-1) p.t
structure PO where
 code:Nat
 out:Byt
 val:Byt
 deriving DecidableEq
def told(r:SR):PO:=⟨r.e,r.W.out,if r.e=0 then cut (text r.W.pairs r.S.val) else []⟩
def beganW(W:PW)(f:PF):PW:={W with out:=[],pairs:=W.pairs++(settle f W.pairs.length).2}
def beganS(W:PW)(f:PF):PS:=⟨some (settle f W.pairs.length).1,[],.nothing,[]⟩
def over(n:Int):Bool:=decide (n<0)||decide (1000000<n)
def answer(W:PW)(i:Byt×Int):PW×PO :=
 if over i.2 then(W,⟨6,[],[]⟩)
 else if check i.1≠0 then(W,⟨check i.1,[],[]⟩)
 else match readF i.1 with
  | none=>(W,⟨5,[],[]⟩)
  | some f=>((goOn i.2.toNat (beganW W f) (beganS W f)).W,told (goOn i.2.toNat (beganW W f) (beganS W f)))
def session:PW->List (Byt×Int)->PW×List PO
 | W,[]=>(W,[])
 | W,i::r=>((session (answer W i).1 r).1,(answer W i).2::(session (answer W i).1 r).2)
theorem session_snoc:∀(l:List (Byt×Int)) (W:PW) (i:Byt×Int),session W (l++[i])=((answer (session W l).1 i).1,(session W l).2++[(answer (session W l).1 i).2])
 | [],_,_=>rfl
 | x::l,W,i=>by simp only [List.cons_append,session,session_snoc l]
theorem session_len:∀(l:List (Byt×Int)) (W:PW),(session W l).2.length=l.length
 | [],_=>rfl
 | x::l,W=>by simp [session,session_len l]
end Pl
end
open Pl (callccW)
section
open Go.RowKit
variable {M M':Nat->Prop} {w w':World} {v:Value} {i:Nat}
def TVal:TypeId:=161
def TPair:TypeId:=369
def TForm:TypeId:=61
def TNam:TypeId:=214
structure Sg where
 tq:TypeId
 tc:TypeId
 pb:List Nat
 qb:List Nat
 cb:List Nat
 lp:List (Option (Nat×Nat))
 ns:List Byt
structure Sg.Le(s t:Sg):Prop where
 tq:t.tq=s.tq
 tc:t.tc=s.tc
 pb:s.pb <+: t.pb
 qb:s.qb <+: t.qb
 cb:s.cb <+: t.cb
 lp:s.lp <+: t.lp
 ns:s.ns <+: t.ns
theorem Sg.Le.refl(s:Sg):Sg.Le s s:=⟨rfl,rfl,List.prefix_refl _,List.prefix_refl _,List.prefix_refl _,List.prefix_refl _,List.prefix_refl _⟩
theorem Sg.Le.trans{a b c:Sg}(h:Sg.Le a b)(k:Sg.Le b c):Sg.Le a c:=⟨k.tq.trans h.tq,k.tc.trans h.tc,h.pb.trans k.pb,h.qb.trans k.qb,h.cb.trans k.cb,h.lp.trans k.lp,h.ns.trans k.ns⟩
theorem bS{α:Type}{a b:List α}(h:a <+: b){x:α}(hi:a[i]?=some x):b[i]?=some x:=by obtain⟨t,rfl⟩:=h;rw [List.getElem?_append_left (List.getElem?_eq_some_iff.1 hi).1];exact hi
inductive RV (s:Sg):Value->PV->Prop
 | num (n:Int):RV s (.iface 294 (.int .i64 n)) (.num n)
 | truth (b:Bool):RV s (.iface 296 (.bool b)) (.truth b)
 | name (t:Byt):RV s (.iface 297 (.string ⟨t.toArray⟩)) (.name t)
 | empty:RV s (.iface 366 (.agg #[])) .empty
 | nothing:RV s (.iface 299 (.agg #[])) .nothing
 | pair (i b:Nat) (h:s.pb[i]?=some b):RV s (.iface 367 (.pointer (some ⟨b,0,none⟩))) (.pair i)
 | proc (i b:Nat) (h:s.qb[i]?=some b):RV s (.iface s.tq (.pointer (some ⟨b,0,none⟩))) (.proc i)
 | cont (i b:Nat) (h:s.cb[i]?=some b):RV s (.iface s.tc (.pointer (some ⟨b,0,none⟩))) (.cont i)
 | prim (k:Nat) (t:Byt) (h:prims[k]?=some t) (hk:k<12):RV s (.iface 246 (.int .i64 (k:Int))) (.prim t)
 | callcc:RV s (.iface 243 (.agg #[])) (.prim callccW)
theorem RV.le{s t:Sg}(l:Sg.Le s t){p:PV}(h:RV s v p):RV t v p:=by
 cases h with
 | num n=>exact .num n
 | truth b=>exact .truth b
 | name t=>exact .name t
 | empty=>exact .empty
 | nothing=>exact .nothing
 | pair i b h=>exact .pair i b (bS l.pb h)
 | proc i b h=>rw [<- l.tq];exact .proc i b (bS l.qb h)
 | cont i b h=>rw [<- l.tc];exact .cont i b (bS l.cb h)
 | prim k t h hk=>exact .prim k t h hk
 | callcc=>exact .callcc
theorem RV.iface{s:Sg}{p:PV}(h:RV s v p):∃T x,v=.iface T x:=by cases h<;>exact⟨_,_,rfl⟩
theorem RV.oneCell{s:Sg}{p:PV}(h:RV s v p):v.oneCell'=true:=by cases h<;>rfl
theorem p5{α:Type}{l:List α}{x y:α}(h:(l++[x])[i]?=some y):l[i]?=some y\/(i=l.length/\y=x):=by
 by_cases hi:i<l.length
 ·left;rwa [List.getElem?_append_left hi] at h
 ·right;rw [List.getElem?_append_right (by omega)] at h;by_cases h0:i-l.length=0
  ·rw [h0] at h;simp at h;exact⟨by omega,h.symm⟩
  ·rw [List.getElem?_eq_none (by simp;omega)] at h;simp at h
def All2{α β:Type}(R:α->β->Prop)(us:List α)(l:List β):Prop:=us.length=l.length/\∀(i:Nat)(u:α)(x:β),us[i]?=some u->l[i]?=some x->R u x
theorem All2.mono{α β:Type}{R Q:α->β->Prop}{us:List α}{l:List β}(h:All2 R us l)(hm:∀u x,R u x->Q u x):All2 Q us l:=⟨h.1,fun i u x hu hx=>hm u x (h.2 i u x hu hx)⟩
theorem All2.nil{α β:Type}(R:α->β->Prop):All2 R [] []:=⟨rfl,fun i u x h=>by simp at h⟩
theorem All2.snoc{α β:Type}{R:α->β->Prop}{us:List α}{l:List β}(h:All2 R us l){u:α}{x:β}(hu:R u x):All2 R (us++[u]) (l++[x]):=by
 refine⟨by simp [h.1],fun i a b ha hb=>?_⟩;by_cases hi:i<us.length
 ·rw [List.getElem?_append_left hi] at ha;rw [List.getElem?_append_left (by rw [<- h.1];exact hi)] at hb;exact h.2 i a b ha hb
 ·rw [List.getElem?_append_right (by omega)] at ha;rw [List.getElem?_append_right (by rw [<- h.1];omega)] at hb;have h0:=(List.getElem?_eq_some_iff.1 ha).1;have h1:i-us.length=0:=by simp at h0;omega
  rw [h1] at ha;rw [<- h.1,h1] at hb;simp at ha hb;subst ha hb;exact hu
theorem All2.cons{α β:Type}{R:α->β->Prop}{us:List α}{l:List β}(h:All2 R us l){u:α}{x:β}(hu:R u x):All2 R (u::us) (x::l):=by
 refine⟨by simp [h.1],fun i a b ha hb=>?_⟩
 cases i with
 | zero=>simp at ha hb;subst ha hb;exact hu
 | succ i=>simp at ha hb;exact h.2 i a b ha hb
theorem All2.drop{α β:Type}{R:α->β->Prop}{us:List α}{l:List β}(h:All2 R us l)(k:Nat):All2 R (us.drop k) (l.drop k):=⟨by simp [h.1],fun i a b ha hb=>h.2 (k+i) a b (by simpa using ha) (by simpa using hb)⟩
theorem All2.append{α β:Type}{R:α->β->Prop}{us vs:List α}{l m:List β}(h:All2 R us l)(k:All2 R vs m):All2 R (us++vs) (l++m):=by
 refine⟨by simp [h.1,k.1],fun i a b ha hb=>?_⟩;by_cases hi:i<us.length
 ·rw [List.getElem?_append_left hi] at ha;rw [List.getElem?_append_left (by rw [<- h.1];exact hi)] at hb;exact h.2 i a b ha hb
 ·rw [List.getElem?_append_right (by omega)] at ha;rw [List.getElem?_append_right (by rw [<- h.1];omega),<-h.1] at hb;exact k.2 _ a b ha hb
theorem All2.at_{α β:Type}{R:α->β->Prop}{us:List α}{l:List β}(h:All2 R us l){x:β}(hx:l[i]?=some x):∃u,us[i]?=some u/\R u x:=by have hl:=(List.getElem?_eq_some_iff.1 hx).1;have:=List.getElem?_eq_getElem (l:=us) (i:=i) (by rw [h.1];exact hl);exact⟨_,this,h.2 i _ x this hx⟩
structure PairsAt(M:Nat->Prop)(w:World)(s:Sg)(ps:List (PV×PV)):Prop where
 len:s.pb.length=ps.length
 nodup:s.pb.Nodup
 at_:∀(i b:Nat)(p:PV×PV),s.pb[i]?=some b->ps[i]?=some p->¬M b/\∃x y,w.heap[b]?=some (.cells #[x,y] TPair (0,0))/\RV s x p.1/\RV s y p.2
theorem PairsAt.stp{s:Sg}{ps:List (PV×PV)}(h:PairsAt M w s ps)(hs:Stp M w M' w'):PairsAt M' w' s ps :=
 ⟨h.len,h.nodup,fun i b p hb hp=>by
  obtain⟨h1,x,y,h2,h3⟩:=h.at_ i b p hb hp;obtain⟨e1,e2⟩:=hs.block b (aB h2) h1
  exact⟨e2,x,y,e1.trans h2,h3⟩⟩
theorem PairsAt.le{s t:Sg}{ps:List (PV×PV)}(h:PairsAt M w s ps)(l:Sg.Le s t)(hp:t.pb=s.pb):PairsAt M w t ps :=
 ⟨by rw [hp];exact h.len,by rw [hp];exact h.nodup,fun i b p hb hq=>by
  obtain⟨h1,x,y,h2,h3,h4⟩:=h.at_ i b p (by rw [<- hp];exact hb) hq
  exact⟨h1,x,y,h2,h3.le l,h4.le l⟩⟩
def Sg.addPair(s:Sg)(b:Nat):Sg:={s with pb:=s.pb++[b]}
theorem Sg.addPair_le(s:Sg)(b:Nat):Sg.Le s (s.addPair b):=⟨rfl,rfl,List.prefix_append _ _,List.prefix_refl _,List.prefix_refl _,List.prefix_refl _,List.prefix_refl _⟩
theorem PairsAt.push{s:Sg}{ps:List (PV×PV)}(h:PairsAt M w s ps)(hM:∀k,M k->k<w.heap.size){x y:Value}{p:PV×PV}(hx:RV s x p.1)(hy:RV s y p.2) :PairsAt M (w.alloc (.cells #[x,y] TPair)) (s.addPair w.heap.size) (ps++[p])/\RV (s.addPair w.heap.size) (.iface 367 (.pointer (some ⟨w.heap.size,0,none⟩))) (.pair ps.length):=by
 have hlt:∀(i b:Nat),s.pb[i]?=some b->b<w.heap.size:=by intro i b hb;have hi:=(List.getElem?_eq_some_iff.1 hb).1;obtain⟨_,x,y,h2,_⟩:=h.at_ i b _ hb (List.getElem?_eq_getElem (by rw [<- h.len];exact hi));exact aB h2
 refine⟨⟨by simp [Sg.addPair,h.len],?_,?_⟩,.pair _ _ ?_⟩
 ·simp only [Sg.addPair,List.nodup_append];refine⟨h.nodup,by simp,?_⟩;rintro a ha b hb;rintro rfl;simp at hb;subst hb;obtain⟨i,hi⟩:=List.getElem?_of_mem ha;have:=hlt i _ hi;omega
 ·intro i b q hb hq;rcases Nat.lt_or_ge i ps.length with hi | hi
  ·rw [List.getElem?_append_left hi] at hq
   have hb0:s.pb[i]?=some b:=by
    have:=hb;simp only [Sg.addPair] at this
    rwa [List.getElem?_append_left (by rw [h.len];exact hi)] at this
   obtain⟨h1,x',y',h2,h3,h4⟩:=h.at_ i b q hb0 hq;exact⟨h1,x',y',(Below.heap_alloc w _ b (aB h2)).trans h2,h3.le (s.addPair_le _),h4.le (s.addPair_le _)⟩
  ·have h0:=(List.getElem?_eq_some_iff.1 hq).1;have hi0:i=ps.length:=by simp at h0;omega
   subst hi0;simp at hq;subst hq;have hb0:b=w.heap.size:=by have:=hb;simp only [Sg.addPair] at this;rw [<- h.len] at this;simpa using this.symm
   subst hb0;exact⟨fun hm=>by have:=hM _ hm;omega,x,y,heap_alloc_new w _,hx.le (s.addPair_le _),hy.le (s.addPair_le _)⟩
 ·simp only [Sg.addPair];rw [<- h.len];simp
def isQ:Pl.Tre->Bool
 | .agg _=>true
 | _=>false
def gU(s:Byt)(k:Nat):List Value:=[.string ⟨s.toArray⟩,.int .i64 (k:Int)]
def d7(ns:List Byt)(ks:List Nat):List Value:=(List.zip ns ks).flatMap fun p=>gU p.1 p.2
structure NmRow(M:Nat->Prop)(w:World)(s:Sg)(sl:Value)(ns:List Byt):Prop where
 ex:∃ks:List Nat,All2 (fun k t=>s.ns[k]?=some t) ks ns/\Sl M w TNam 2 sl ns.length (d7 ns ks)
 nodup:ns.Nodup
 len:ns.length<=1000
inductive RFm (M:Nat->Prop) (w:World) (s:Sg):Value->PF->Prop
 | const (x:Value) (q:Bool) (nm:Byt) (d:Pl.Tre) (v:PV) (ks:List PF) (ns:List Byt) (h:RV s x v) (hq:q=isQ d):RFm M w s (.iface 223 (.agg #[x,.bool q])) (.mk .const nm d v ks ns)
 | name (k:Nat) (nm:Byt) (d:Pl.Tre) (v:PV) (ks:List PF) (ns:List Byt) (h:s.ns[k]?=some nm):RFm M w s (.iface 214 (.agg #[.string ⟨nm.toArray⟩,.int .i64 (k:Int)])) (.mk .name nm d v ks ns)
 | iff (a b c:Value) (x y z:PF) (nm:Byt) (d:Pl.Tre) (v:PV) (ns:List Byt) (h1:RFm M w s a x) (h2:RFm M w s b y) (h3:RFm M w s c z):RFm M w s (.iface 335 (.agg #[a,b,c])) (.mk .iff nm d v [x,y,z] ns)
 | begin (sl:Value) (us:List Value) (nm:Byt) (d:Pl.Tre) (v:PV) (ks:List PF) (ns:List Byt) (h1:Sl M w TForm 1 sl ks.length us) (h2:us.length=ks.length) (h3:∀(i:Nat)(u:Value)(x:PF),us[i]?=some u->ks[i]?=some x->RFm M w s u x) (h4:1<=ks.length) (h5:ks.length<=2000):RFm M w s (.iface 347 (.agg #[sl])) (.mk .begin nm d v ks ns)
 | call (sl:Value) (us:List Value) (nm:Byt) (d:Pl.Tre) (v:PV) (ks:List PF) (ns:List Byt) (h1:Sl M w TForm 1 sl ks.length us) (h2:us.length=ks.length) (h3:∀(i:Nat)(u:Value)(x:PF),us[i]?=some u->ks[i]?=some x->RFm M w s u x) (h4:1<=ks.length) (h5:ks.length<=2000):RFm M w s (.iface 349 (.agg #[sl])) (.mk .call nm d v ks ns)
 | set (k:Nat) (a:Value) (x:PF) (nm:Byt) (d:Pl.Tre) (v:PV) (ns:List Byt) (h:s.ns[k]?=some nm) (h1:RFm M w s a x):RFm M w s (.iface 340 (.agg #[.string ⟨nm.toArray⟩,.int .i64 (k:Int),a])) (.mk .set nm d v [x] ns)
 | define (k:Nat) (a:Value) (x:PF) (nm:Byt) (d:Pl.Tre) (v:PV) (ns:List Byt) (h:s.ns[k]?=some nm) (h1:RFm M w s a x):RFm M w s (.iface 218 (.agg #[.string ⟨nm.toArray⟩,.int .i64 (k:Int),a])) (.mk .define nm d v [x] ns)
 | lambda (sl a:Value) (x:PF) (nm:Byt) (d:Pl.Tre) (v:PV) (ns:List Byt) (h1:NmRow M w s sl ns) (h2:RFm M w s a x):RFm M w s (.iface 329 (.agg #[sl,a])) (.mk .lambda nm d v [x] ns)
theorem NmRow.go{s t:Sg}{sl:Value}{ns:List Byt}(h:NmRow M w s sl ns)(hs:Stp M w M' w')(l:Sg.Le s t):NmRow M' w' t sl ns:=by obtain⟨⟨ks,h1,h2⟩,h3,h4⟩:=h;exact⟨⟨ks,h1.mono (fun k t ht=>bS l.ns ht),h2.stp hs⟩,h3,h4⟩
theorem RFm.go{s t:Sg}(hs:Stp M w M' w')(l:Sg.Le s t){f:PF}(h:RFm M w s v f):RFm M' w' t v f:=by
 induction h with
 | const x q nm d v ks ns h hq=>exact .const x q nm d v ks ns (h.le l) hq
 | name k nm d v ks ns h=>exact .name k nm d v ks ns (bS l.ns h)
 | iff a b c x y z nm d v ns _ _ _ i1 i2 i3=>exact .iff a b c x y z nm d v ns i1 i2 i3
 | begin sl us nm d v ks ns h1 h2 _ h4 h5 ih=>exact .begin sl us nm d v ks ns (h1.stp hs) h2 ih h4 h5
 | call sl us nm d v ks ns h1 h2 _ h4 h5 ih=>exact .call sl us nm d v ks ns (h1.stp hs) h2 ih h4 h5
 | set k a x nm d v ns h _ ih=>exact .set k a x nm d v ns (bS l.ns h) ih
 | define k a x nm d v ns h _ ih=>exact .define k a x nm d v ns (bS l.ns h) ih
 | lambda sl a x nm d v ns h1 _ ih=>exact .lambda sl a x nm d v ns (h1.go hs l) ih
theorem Sl.weaken{T:TypeId}{sz:Nat}{n:Nat}{xs:List Value}(hm:∀k,M' k->M k)(h:Sl M w T sz v n xs):Sl M' w T sz v n xs:=by obtain⟨h0,ao,cap,e,h2,h3⟩:=h;refine⟨h0,ao,cap,e,h2,h3.imp id ?_⟩;rintro⟨g,off,cur,rfl,hn,r⟩;exact⟨g,off,cur,rfl,fun x=>hn (hm g x),r⟩
theorem NmRow.weaken{s:Sg}{sl:Value}{ns:List Byt}(hm:∀k,M' k->M k)(h:NmRow M w s sl ns):NmRow M' w s sl ns:=by obtain⟨⟨ks,h1,h2⟩,h3,h4⟩:=h;exact⟨⟨ks,h1,h2.weaken hm⟩,h3,h4⟩
theorem RFm.weaken{s:Sg}(hm:∀k,M' k->M k){f:PF}(h:RFm M w s v f):RFm M' w s v f:=by
 induction h with
 | const x q nm d v ks ns h hq=>exact .const x q nm d v ks ns h hq
 | name k nm d v ks ns h=>exact .name k nm d v ks ns h
 | iff a b c x y z nm d v ns _ _ _ i1 i2 i3=>exact .iff a b c x y z nm d v ns i1 i2 i3
 | begin sl us nm d v ks ns h1 h2 _ h4 h5 ih=>exact .begin sl us nm d v ks ns (h1.weaken hm) h2 ih h4 h5
 | call sl us nm d v ks ns h1 h2 _ h4 h5 ih=>exact .call sl us nm d v ks ns (h1.weaken hm) h2 ih h4 h5
 | set k a x nm d v ns h _ ih=>exact .set k a x nm d v ns h ih
 | define k a x nm d v ns h _ ih=>exact .define k a x nm d v ns h ih
 | lambda sl a x nm d v ns h1 _ ih=>exact .lambda sl a x nm d v ns (h1.weaken hm) ih
theorem PairsAt.weaken{s:Sg}{ps:List (PV×PV)}(hm:∀k,M' k->M k)(h:PairsAt M w s ps):PairsAt M' w s ps :=⟨h.len,h.nodup,fun i b p hb hp=>⟨fun x=>(h.at_ i b p hb hp).1 (hm b x),(h.at_ i b p hb hp).2⟩⟩
theorem RFm.iface{s:Sg}{f:PF}(h:RFm M w s v f):∃T x,v=.iface T x:=by cases h<;>exact⟨_,_,rfl⟩
end
end Go.Proofs.YtkgbdddkcjpgfaaGreatDoor
