import Derived.Lib.ItoaNum
import Derived.Test.YtkgbdddkcjpgfaaGreatDoorS03
import Derived.Deep.AppendLies
import Derived.Test.YtkgbdddkcjpgfaaGreatDoorS04
namespace Go.Proofs.YtkgbdddkcjpgfaaGreatDoor
set_option maxHeartbeats 1000000
set_option maxRecDepth 100000
section
namespace Pl
abbrev Byt:=List UInt8
inductive PV where
 | num (n:Int)
 | truth (b:Bool)
 | name (s:Byt)
 | empty
 | nothing
 | pair (n:Nat)
 | proc (n:Nat)
 | cont (n:Nat)
 | prim (s:Byt)
 deriving DecidableEq
inductive FK where
 | const
 | name
 | iff
 | set
 | define
 | lambda
 | begin
 | call
 deriving DecidableEq
inductive PF where
 | mk (k:FK) (nm:Byt) (d:Tre) (v:PV) (ks:List PF) (ns:List Byt)
namespace PF
def k:PF->FK
 | .mk k _ _ _ _ _=>k
def nm:PF->Byt
 | .mk _ nm _ _ _ _=>nm
def d:PF->Tre
 | .mk _ _ d _ _ _=>d
def v:PF->PV
 | .mk _ _ _ v _ _=>v
def ks:PF->List PF
 | .mk _ _ _ _ ks _=>ks
def ns:PF->List Byt
 | .mk _ _ _ _ _ ns=>ns
end PF
abbrev Env:=List (Byt×Nat)
structure PFr where
 form:PF
 got:List PV
 pos:Nat
 env:Env
structure PW where
 pairs:List (PV×PV)
 procs:List (PF×Env)
 conts:List (List PFr)
 places:List PV
 globals:Env
 out:Byt
structure PS where
 form:Option PF
 env:Env
 val:PV
 frames:List PFr
structure SR where
 e:Nat
 W:PW
 S:PS
def find:Env->Byt->Option Nat
 | [],_=>none
 | b::r,s=>match find r s with
  | some k=>some k
  | none=>if b.1=s then some b.2 else none
theorem find_append(a b:Env)(s:Byt):find (a++b) s=match find b s with
  | some k=>some k
  | none=>find a s:=by
 induction a with
 | nil=>simp only [List.nil_append];cases find b s<;>rfl
 | cons x a ih =>
  simp only [List.cons_append,find,ih]
  cases find b s<;>rfl
def seek(W:PW)(env:Env)(s:Byt):Option Nat:=match find env s with
 | some k=>some k
 | none=>find W.globals s
def bind(W:PW)(s:Byt)(v:PV):PW:=match find W.globals s with
 | some k=>{W with places:=W.places.set k v}
 | none=>{W with places:=W.places++[v],globals:=W.globals++[(s,W.places.length)]}
def PS.give(S:PS)(v:PV):PS:={S with form:=none,val:=v}
def PS.work(S:PS)(f:Option PF)(env:Env):PS:={S with form:=f,env:=env}
def PS.push(S:PS)(f:PFr):PS:={S with frames:=f::S.frames}
def numb(l:List Byt)(n:Nat):Env:=match l with
 | []=>[]
 | s::r=>(s,n)::numb r (n+1)
theorem numb_append(a b:List Byt)(n:Nat):numb (a++b) n=numb a n++numb b (n+a.length):=by
 induction a generalizing n with
 | nil=>rfl
 | cons x a ih =>simp only [List.cons_append,numb,ih,List.length_cons];rw [show n+1+a.length=n+(a.length+1) from by omega]
def itoa(n:Int):Byt:=Lib.itoa n
def procW:Byt:=[35,112,114,111,99,101,100,117,114,101]
def atomT:PV->Byt
 | .num n=>itoa n
 | .truth b=>if b then [35,116] else [35,102]
 | .name s=>s
 | .empty=>[40,41]
 | .nothing=>[]
 | .pair _=>[]
 | _=>procW
mutual
def txt(ps:List (PV×PV)):Nat->PV->Byt
 | 0,_=>[]
 | n+1,.pair i=>match ps[i]? with
  | some p=>40::(txt ps n p.1++j8 ps n p.2)
  | none=>[]
 | _+1,v=>atomT v
def j8(ps:List (PV×PV)):Nat->PV->Byt
 | 0,_=>[]
 | n+1,.pair i=>match ps[i]? with
  | some p=>32::(txt ps n p.1++j8 ps n p.2)
  | none=>[]
 | _+1,.empty=>[41]
 | _+1,v=>[32,46,32]++atomT v++[41]
end
def rank:PV->Nat
 | .pair i=>i+1
 | _=>0
def text(ps:List (PV×PV))(v:PV):Byt:=txt ps (rank v+1) v
def cut(s:Byt):Byt:=if 200<s.length then s.take 200++[46,46] else s
def plusW:Byt:=[43]
def minusW:Byt:=[45]
def timesW:Byt:=[42]
def lessW:Byt:=[60]
def eqW:Byt:=[61]
def consW:Byt:=[99,111,110,115]
def carW:Byt:=[99,97,114]
def cdrW:Byt:=[99,100,114]
def nullW:Byt:=[110,117,108,108,63]
def pairW:Byt:=[112,97,105,114,63]
def sameW:Byt:=[101,113,63]
def displayW:Byt:=[100,105,115,112,108,97,121]
def callccW:Byt:=[99,97,108,108,47,99,99]
def prims:List Byt:=[plusW,minusW,timesW,lessW,eqW,consW,carW,cdrW,nullW,pairW,sameW,displayW,callccW]
def arity(s:Byt):Nat:=if s=carW\/s=cdrW\/s=nullW\/s=pairW\/s=displayW\/s=callccW then 1 else 2
def reckon(W:PW)(S:PS)(s:Byt)(a b:PV):SR:=match a,b with
 | .num x,.num y =>
  if s=lessW then⟨0,W,S.give (.truth (decide (x<y)))⟩
  else if s=eqW then⟨0,W,S.give (.truth (decide (x=y)))⟩
  else
   let n:=if s=plusW then x+y else if s=minusW then x-y else x*y
   if n.natAbs<=Pl.big then⟨0,W,S.give (.num n)⟩ else⟨11,W,S⟩
 | _,_=>⟨9,W,S⟩
def isPairV:PV->Bool
 | .pair _=>true
 | _=>false
def prim1(W:PW)(S:PS)(s:Byt)(a:PV):SR :=
 if s=displayW then
  let t:=cut (text W.pairs a)
  if W.out.length+t.length<=1000 then⟨0,{W with out:=W.out++t},S.give .nothing⟩ else⟨11,W,S⟩
 else if s=carW\/s=cdrW then match a with
  | .pair i=>match W.pairs[i]? with
   | some p=>⟨0,W,S.give (if s=cdrW then p.2 else p.1)⟩
   | none=>⟨9,W,S⟩
  | _=>⟨9,W,S⟩
 else if s=nullW then⟨0,W,S.give (.truth (decide (a=.empty)))⟩
 else⟨0,W,S.give (.truth (isPairV a))⟩
def prim2(W:PW)(S:PS)(s:Byt)(a b:PV):SR :=
 if s=consW then⟨0,{W with pairs:=W.pairs++[(a,b)]},S.give (.pair W.pairs.length)⟩
 else if s=sameW then⟨0,W,S.give (.truth (decide (a=b)))⟩
 else reckon W S s a b
def applyB(W:PW)(S:PS)(f:PV)(args:List PV):SR:=match f with
 | .proc i=>match W.procs[i]? with
  | some p=>if args.length≠p.1.ns.length then⟨10,W,S⟩
   else⟨0,{W with places:=W.places++args},S.work p.1.ks[0]? (p.2++numb p.1.ns W.places.length)⟩
  | none=>⟨9,W,S⟩
 | .cont i=>match args with
  | [a]=>⟨0,W,{S with frames:=W.conts[i]?.getD []}.give a⟩
  | _=>⟨10,W,S⟩
 | .prim s=>if args.length≠arity s then⟨10,W,S⟩ else match args with
  | [a]=>prim1 W S s a
  | [a,b]=>prim2 W S s a b
  | _=>⟨10,W,S⟩
 | _=>⟨9,W,S⟩
def PW.keep(W:PW)(S:PS):PW:={W with conts:=W.conts++[S.frames]}
def apply(W:PW)(S:PS)(f:PV)(args:List PV):SR :=
 if f=.prim callccW then match args with
  | [a] =>
   let c:=PV.cont W.conts.length
   if a=.prim callccW then applyB ((W.keep S).keep S) S c [.cont (W.conts.length+1)]
   else applyB (W.keep S) S a [c]
  | _=>⟨10,W,S⟩
 else applyB W S f args
def taken(W:PW)(S:PS):SR:=match S.frames with
 | []=>⟨9,W,S⟩
 | fr::rest =>
  let S1:={S with frames:=rest}
  match fr.form.k with
  | .iff=>⟨0,W,S1.work (if S.val=.truth false then fr.form.ks[2]? else fr.form.ks[1]?) fr.env⟩
  | .set=>match seek W fr.env fr.form.nm with
   | some k=>⟨0,{W with places:=W.places.set k S.val},S1.give .nothing⟩
   | none=>⟨8,W,S1⟩
  | .define=>⟨0,bind W fr.form.nm S.val,S1.give .nothing⟩
  | .begin=>⟨0,W,(if fr.pos+1<fr.form.ks.length then S1.push {fr with got:=[],pos:=fr.pos+1} else S1).work fr.form.ks[fr.pos]? fr.env⟩
  | _ =>
   let got:=fr.got++[S.val]
   if fr.pos=fr.form.ks.length then match got with
    | []=>⟨9,W,S1⟩
    | g::args=>apply W S1 g args
   else⟨0,W,(S1.push {fr with got:=got,pos:=fr.pos+1}).work fr.form.ks[fr.pos]? fr.env⟩
def step(W:PW)(S:PS):SR:=match S.form with
 | none=>taken W S
 | some f=>match f.k with
  | .const=>⟨0,W,S.give f.v⟩
  | .name=>match seek W S.env f.nm with
   | some k=>⟨0,W,S.give (W.places[k]?.getD .nothing)⟩
   | none=>⟨8,W,S⟩
  | .lambda=>⟨0,{W with procs:=W.procs++[(f,S.env)]},S.give (.proc W.procs.length)⟩
  | .begin=>⟨0,W,(if 1<f.ks.length then S.push ⟨f,[],1,S.env⟩ else S).work f.ks[0]? S.env⟩
  | _=>⟨0,W,(S.push ⟨f,[],1,S.env⟩).work f.ks[0]? S.env⟩
def PS.ended(S:PS):Bool:=S.form.isNone&&S.frames.isEmpty
def goOn:Nat->PW->PS->SR
 | 0,W,S=>if S.ended then⟨0,W,S⟩ else⟨7,W,S⟩
 | n+1,W,S=>if S.ended then⟨0,W,S⟩ else
  let r:=step W S
  if r.e=0 then goOn n r.W r.S else r
end Pl
end
open Go.Proofs.Tryz
open Pl (PV PW PF PFr Byt Env FK prims)
section
open Go.RowKit
variable {w w':World} {M M':Nat->Prop} {v:Value}
def TV:TypeId:=154
def TB:TypeId:=249
def TPa:TypeId:=263
def TPc:TypeId:=186
def TFrP:TypeId:=172
def TFr:TypeId:=176
def TFo:TypeId:=182
def TFP:TypeId:=69
def TSt:TypeId:=174
def TWd:TypeId:=96
def TS:TypeId:=9
theorem Tryz.infoV:(prog.info? 154).map (fun i=>(i.zero,i.size,i.bytes))=some (some (.agg #[.string ⟨#[]⟩,.int .i64 0,.string ⟨#[]⟩]),3,40):=by kernel_rfl
theorem Tryz.infoB:(prog.info? 249).map (fun i=>(i.zero,i.size,i.bytes))=some (some (.agg #[.string ⟨#[]⟩,.int .i64 0]),2,24):=by kernel_rfl
theorem Tryz.infoPa:(prog.info? 263).map (fun i=>(i.zero,i.size,i.bytes))=some (some (.agg #[.string ⟨#[]⟩,.int .i64 0,.string ⟨#[]⟩,.string ⟨#[]⟩,.int .i64 0,.string ⟨#[]⟩]),6,80):=by kernel_rfl
theorem Tryz.infoPc:(prog.info? 186).map (fun i=>(i.zero,i.size,i.bytes))=some (some (.agg #[.pointer none,.slice none 0 0]),2,32):=by kernel_rfl
theorem Tryz.infoFrP:(prog.info? 172).map (fun i=>(i.zero,i.size,i.bytes))=some (some (.pointer none),1,8):=by kernel_rfl
def byV(s:Byt):Value:=.string ⟨s.toArray⟩
def pI:Byt:=[112,97,105,114]
def s5:Byt:=[112,114,111,99,101,100,117,114,101]
def pJ:Byt:=[99,111,110,116,105,110,117,97,116,105,111,110]
def pH:Byt:=[112,114,105,109,105,116,105,118,101]
def kEmp:Byt:=[101,109,112,116,121]
def kNot:Byt:=[110,111,116,104,105,110,103]
def kNu:Byt:=[110,117,109,98,101,114]
def kTr:Byt:=[116,114,117,116,104]
def kNa:Byt:=[110,97,109,101]
def vK:PV->Byt
 | .num _=>kNu
 | .truth _=>kTr
 | .name _=>kNa
 | .empty=>kEmp
 | .nothing=>kNot
 | .pair _=>pI
 | .proc _=>s5
 | .cont _=>pJ
 | .prim _=>pH
def vN:PV->Int
 | .num n=>n
 | .truth b=>if b then 1 else 0
 | .pair n=>n
 | .proc n=>n
 | .cont n=>n
 | _=>0
def vS:PV->Byt
 | .name s=>s
 | .prim s=>s
 | _=>[]
def cZ(v:PV):List Value:=[byV (vK v),.int .i64 (vN v),byV (vS v)]
def bT(v:PV):Value:=.agg #[byV (vK v),.int .i64 (vN v),byV (vS v)]
def iM(b:Byt×Nat):List Value:=[byV b.1,.int .i64 b.2]
def mG(p:PV×PV):List Value:=cZ p.1++cZ p.2
def Sl(M:Nat->Prop)(w:World)(T:TypeId)(sz:Nat)(v:Value)(n:Nat)(xs:List Value):Prop :=xs.length=n*sz/\∃ao cap,v=.slice ao n cap/\n<=cap/\(n=0\/∃g off cur,ao=some ⟨g,off,none⟩/\¬M g/\w.heap[g]?=some (.cells cur T (0,0))/\∀(i:Nat)(u:Value),xs[i]?=some u->cur[off+i]?=some u)
def EnvAt(M:Nat->Prop)(w:World)(v:Value)(env:Env):Prop:=Sl M w TB 2 v env.length (env.flatMap iM)
def GotAt(M:Nat->Prop)(w:World)(v:Value)(l:List PV):Prop:=Sl M w TV 3 v l.length (l.flatMap cZ)
def fkS:FK->Byt
 | .const=>[99,111,110,115,116]
 | .name=>kNa
 | .iff=>Pl.ifW
 | .set=>Pl.setW
 | .define=>Pl.defineW
 | .lambda=>Pl.lambdaW
 | .begin=>Pl.beginW
 | .call=>[99,97,108,108]
def shape:FK->Nat->Prop
 | .const,n=>n=0
 | .name,n=>n=0
 | .iff,n=>n=3
 | .set,n=>n=1
 | .define,n=>n=1
 | .lambda,n=>n=1
 | .begin,n=>1<=n
 | .call,n=>1<=n
def RepS:Nat->World->Value->PF->Prop
 | 0,_,_,_=>False
 | n+1,w,v,.mk k nm d pv ks ns=>∃b dv kv nv c0 c1 c2 us,v=.pointer (some ⟨b,0,none⟩) /\
   w.heap[b]?=some (.cells #[byV (fkS k),byV nm,dv,kv,nv,c0,c1,c2] TFo (0,0)) /\
   w.ownsRow 0 TFP 1 kv ks.length us/\(∀(i:Nat)(u:Value)(x:PF),us[i]?=some u->ks[i]?=some x->RepS n w u x) /\
   w.ownsRow 0 TS 1 nv ns.length (ns.map byV)/\(k=.const->[c0,c1,c2]=cZ pv/\∃m,RepR (fun _=>True) m w dv d)/\shape k ks.length/\ks.length<=1000/\ns.length<=1000
def RF(w:World)(v:Value)(f:PF):Prop:=∃n,RepS n w v f
def FrAt(M:Nat->Prop)(w:World):Value->List PFr->Prop
 | v,[]=>v=.pointer none
 | v,f::r=>∃b fv gv ev up,v=.pointer (some ⟨b,0,none⟩)/\w.heap[b]?=some (.cells #[fv,gv,.int .i64 f.pos,ev,up,.int .i64 (r.length+1:Nat)] TFr (0,0)) /\
   RF w fv f.form/\GotAt M w gv f.got/\EnvAt M w ev f.env/\FrAt M w up r
def imT(e:TypeId):Prop:=e=TD\/e=TP\/e=TFo\/e=TFP\/e=TS\/e=TFr
def KeepI(w w':World):Prop:=∀(k:Nat)(cur:Array Value)(e:TypeId),imT e->w.heap[k]?=some (.cells cur e (0,0))->w'.heap[k]?=some (.cells cur e (0,0))
structure Stp(M:Nat->Prop)(w:World)(M':Nat->Prop)(w':World):Prop where
 os:w'.os=w.os
 tape:w'.tape=w.tape
 output:w'.output=w.output
 size:w.heap.size<=w'.heap.size
 block:∀k,k<w.heap.size->¬M k->w'.heap[k]?=w.heap[k]? /\ ¬M' k
theorem Stp.refl(M:Nat->Prop)(w:World):Stp M w M w:=⟨rfl,rfl,rfl,Nat.le_refl _,fun _ _ h=>⟨rfl,h⟩⟩
theorem Stp.trans{M1 M2 M3:Nat->Prop}{a b c:World}(h:Stp M1 a M2 b)(k:Stp M2 b M3 c):Stp M1 a M3 c :=
 ⟨k.os.trans h.os,k.tape.trans h.tape,k.output.trans h.output,Nat.le_trans h.size k.size,fun i hi hn=>by
  obtain⟨h1,h2⟩:=h.block i hi hn;obtain⟨h3,h4⟩:=k.block i (Nat.lt_of_lt_of_le hi h.size) h2
  exact⟨h3.trans h1,h4⟩⟩
theorem Stp.of_below(h:Below w.heap.size w w'):Stp M w M w':=⟨h.os,h.tape,h.output,h.size,fun k hk hn=>⟨h.block k hk,hn⟩⟩
theorem Stp.of_grown{row:Option Nat}(h:w.grownBy w' row)(hr:∀k,row=some k->M k):Stp M w M w' :=⟨h.os,h.tape,h.output,h.size,fun k hk hn=>⟨h.block k hk (fun e=>hn (hr k e.symm)),hn⟩⟩
def Mty(M:Nat->Prop)(w:World):Prop:=∀k cur e,M k->w.heap[k]?=some (.cells cur e (0,0))->¬imT e
theorem Stp.keepI(h:Stp M w M' w')(ht:Mty M w):KeepI w w':=fun k cur e hi hb =>(h.block k (aB hb) (fun hm=>ht k cur e hm hb hi)).1.trans hb
theorem KeepI.keepD(h:KeepI w w'):KeepD (fun _=>True) w w':=fun k cur e _ ht hb=>h k cur e (ht.elim .inl (fun x=>.inr (.inl x))) hb
theorem f9{n:Nat}{xs:List Value}{T:TypeId}(hk:KeepI w w')(ht:imT T)(h:w.ownsRow 0 T 1 v n xs):w'.ownsRow 0 T 1 v n xs:=by
 refine⟨h.1,?_⟩;rcases h.2 with hn | ⟨g,cap,cur,rfl,hb,hg,rest⟩
 ·exact .inl hn
 ·exact .inr ⟨g,cap,cur,rfl,hb,hk g cur T ht hg,rest⟩
theorem RepS.keep(hk:KeepI w w'):∀(n:Nat)(v:Value)(f:PF),RepS n w v f->RepS n w' v f
 | 0,_,_,h=>h
 | n+1,v,.mk k nm d pv ks ns,h=>by
  obtain⟨b,dv,kv,nv,c0,c1,c2,us,hv,hb,h1,h2,h3,h4,h5⟩:=h
  exact⟨b,dv,kv,nv,c0,c1,c2,us,hv,hk b _ _ (.inr (.inr (.inl rfl))) hb,f9 hk (.inr (.inr (.inr (.inl rfl)))) h1,fun i u x hu hx=>RepS.keep hk n u x (h2 i u x hu hx),
   f9 hk (.inr (.inr (.inr (.inr (.inl rfl))))) h3,fun e=>⟨(h4 e).1,(h4 e).2.elim fun m hm=>⟨m,RepR.keep hk.keepD _ _ _ hm⟩⟩,h5⟩
theorem RF.keep(hk:KeepI w w'){f:PF}(h:RF w v f):RF w' v f:=h.elim fun n hn=>⟨n,RepS.keep hk n v f hn⟩
theorem Sl.stp{T:TypeId}{sz:Nat}{n:Nat}{xs:List Value}(h:Stp M w M' w')(hs:Sl M w T sz v n xs):Sl M' w' T sz v n xs:=by obtain⟨h0,ao,cap,rfl,h2,h3⟩:=hs;refine⟨h0,ao,cap,rfl,h2,h3.imp id ?_⟩;rintro⟨g,off,cur,rfl,hm,hg,hc⟩;obtain⟨e1,e2⟩:=h.block g (aB hg) hm;exact⟨g,off,cur,rfl,e2,e1.trans hg,hc⟩
theorem FrAt.stp(h:Stp M w M' w')(ht:Mty M w):∀(v:Value)(l:List PFr),FrAt M w v l->FrAt M' w' v l
 | _,[],hf=>hf
 | _,_::r,hf=>by obtain⟨b,fv,gv,ev,up,hv,hb,h1,h2,h3,h4⟩:=hf;exact⟨b,fv,gv,ev,up,hv,h.keepI ht b _ _ (.inr (.inr (.inr (.inr (.inr rfl))))) hb,h1.keep (h.keepI ht),h2.stp h,h3.stp h,FrAt.stp h ht up r h4⟩
def WfV(W:PW):PV->Prop
 | .num n=>n.natAbs<=Pl.big
 | .pair i=>i<W.pairs.length
 | .proc i=>i<W.procs.length
 | .cont i=>i<W.conts.length
 | .prim s=>s∈prims
 | .name s=>s.length<=300
 | _=>True
def WfE(W:PW)(env:Env):Prop:=∀b∈env,b.2<W.places.length
end
section
namespace Pl
def mkF(k:FK)(nm:Byt)(d:Tre)(ks:List PF)(ns:List Byt):PF:=.mk k nm d .nothing ks ns
def allF(f:Tre->Option PF):List Tre->Option (List PF)
 | []=>some []
 | x::r=>(f x).bind fun a=>(allF f r).map fun l=>a::l
def lamF(f:Tre->Option PF)(ns body:Tre):Option PF:=match ns with
 | .agg l=>if namesOk l then(f body).map fun b=>mkF .lambda [] .nil [b] (l.map strOf) else none
 | _=>none
def letF(f:Tre->Option PF)(ps body:Tre):Option PF:=match ps with
 | .agg l=>if l.all isPair then(lamF f (.agg (l.map fstOf)) body).bind fun h=>(allF f (l.map sndOf)).map fun r=>mkF .call [] .nil (h::r) [] else none
 | _=>none
def asgF(k:FK)(f:Tre->Option PF)(r:List Tre):Option PF:=match r with
 | [n,e]=>if isName n then(f e).map fun b=>mkF k (strOf n) .nil [b] [] else none
 | _=>none
def lam2F(f:Tre->Option PF)(r:List Tre):Option PF:=match r with
 | [n,e]=>lamF f n e
 | _=>none
def let2F(f:Tre->Option PF)(r:List Tre):Option PF:=match r with
 | [n,e]=>letF f n e
 | _=>none
def keyF(f:Tre->Option PF)(t:Tre)(h:List UInt8)(r:List Tre):Option PF :=
 if h=quoteW then(if r.length==1 then some (mkF .const [] t [] []) else none)
 else if h=ifW then(if r.length==3 then(allF f r).map fun l=>mkF .iff [] .nil l [] else none)
 else if h=beginW then(if !r.isEmpty then(allF f r).map fun l=>mkF .begin [] .nil l [] else none)
 else if h=setW then asgF .set f r
 else if h=lambdaW then lam2F f r
 else if h=letW then let2F f r
 else none
def listF(f:Tre->Option PF)(ks:List Tre):Option PF:=match ks with
 | []=>none
 | k::r=>match headKw (k::r) with
  | some h=>keyF f (.agg (k::r)) h r
  | none=>(allF f (k::r)).map fun l=>mkF .call [] .nil l []
def formOf:Nat->Tre->Option PF
 | 0,_=>none
 | n+1,t=>match t with
  | .lit (.int k m)=>some (mkF .const [] (.lit (.int k m)) [] [])
  | .lit (.bool x)=>some (mkF .const [] (.lit (.bool x)) [] [])
  | .lit (.string s)=>if kwB s then none else some (mkF .name s .nil [] [])
  | .agg ks=>listF (formOf n) ks
  | _=>none
def topOf(n:Nat)(t:Tre):Option PF:=match t with
 | .agg (.lit (.string h)::r)=>if h=defineW then asgF .define (formOf n) r else formOf (n+1) t
 | _=>formOf (n+1) t
theorem allF_some(f:Tre->Option PF)(l:List Tre):(allF f l).isSome=l.all fun x=>(f x).isSome:=by
 induction l with
 | nil=>rfl
 | cons x r ih =>
  unfold allF
  cases hx:f x with
  | none=>simp [hx]
  | some a =>simp only [Option.bind_some,Option.isSome_map,List.all_cons,hx,Option.isSome_some,Bool.true_and];exact ih
theorem gL(b:Bool)(o:Option PF):(if b=true then o else none).isSome=(b&&o.isSome):=by cases b<;>simp
theorem nU(f:Tre->Option PF)(ns body:Tre):(lamF f ns body).isSome=lamOk (fun x=>(f x).isSome) ns body:=by
 cases ns with
 | agg l =>
  show(if namesOk l=true then(f body).map (fun b=>mkF .lambda [] .nil [b] (l.map strOf)) else none).isSome=(namesOk l&&(f body).isSome)
  rw [gL,Option.isSome_map]
 | _=>rfl
theorem vX(f:Tre->Option PF)(ps body:Tre):(letF f ps body).isSome=letOk (fun x=>(f x).isSome) ps body:=by
 cases ps with
 | agg l =>
  show(if l.all isPair=true then(lamF f (.agg (l.map fstOf)) body).bind (fun h=>(allF f (l.map sndOf)).map fun r=>mkF .call [] .nil (h::r) []) else none).isSome=(l.all isPair&&(namesOk (l.map fstOf)&&(f body).isSome)&&(l.map sndOf).all fun x=>(f x).isSome)
  have h1:(lamF f (.agg (l.map fstOf)) body).isSome=(namesOk (l.map fstOf)&&(f body).isSome):=nU f _ _;rw [gL,<-h1,<-allF_some]
  cases lamF f (.agg (l.map fstOf)) body<;>simp
 | _=>rfl
theorem asgF_some(k:FK)(f:Tre->Option PF)(r:List Tre):(asgF k f r).isSome=asgOk (fun x=>(f x).isSome) r:=by
 match r with
 | []=>rfl
 | [_]=>rfl
 | [n,e] =>
  show(if isName n=true then(f e).map (fun b=>mkF k (strOf n) .nil [b] []) else none).isSome=(isName n&&(f e).isSome)
  rw [gL,Option.isSome_map]
 | _::_::_::_=>rfl
theorem sX(f:Tre->Option PF)(r:List Tre):(lam2F f r).isSome=lam2 (fun x=>(f x).isSome) r:=by
 match r with
 | []=>rfl
 | [_]=>rfl
 | [n,e]=>exact nU f n e
 | _::_::_::_=>rfl
theorem sW(f:Tre->Option PF)(r:List Tre):(let2F f r).isSome=let2 (fun x=>(f x).isSome) r:=by
 match r with
 | []=>rfl
 | [_]=>rfl
 | [n,e]=>exact vX f n e
 | _::_::_::_=>rfl
theorem wD(f:Tre->Option PF)(t:Tre)(h:List UInt8)(r:List Tre):(keyF f t h r).isSome=keyForm (fun x=>(f x).isSome) h r:=by
 unfold keyF keyForm;have ha:=allF_some f r;by_cases h1:h=quoteW
 ·rw [if_pos h1,if_pos h1,gL];simp
 rw [if_neg h1,if_neg h1];by_cases h2:h=ifW
 ·rw [if_pos h2,if_pos h2,gL,Option.isSome_map,ha]
 rw [if_neg h2,if_neg h2];by_cases h3:h=beginW
 ·rw [if_pos h3,if_pos h3,gL,Option.isSome_map,ha]
 rw [if_neg h3,if_neg h3];by_cases h4:h=setW
 ·rw [if_pos h4,if_pos h4];exact asgF_some _ f r
 rw [if_neg h4,if_neg h4];by_cases h5:h=lambdaW
 ·rw [if_pos h5,if_pos h5];exact sX f r
 rw [if_neg h5,if_neg h5];by_cases h6:h=letW
 ·rw [if_pos h6,if_pos h6];exact sW f r
 rw [if_neg h6,if_neg h6];rfl
theorem sV(f:Tre->Option PF)(ks:List Tre):(listF f ks).isSome=listForm (fun x=>(f x).isSome) ks:=by
 cases ks with
 | nil=>rfl
 | cons k r =>
  unfold listF listForm;dsimp only
  cases headKw (k::r) with
  | some h=>exact wD f _ h r
  | none =>dsimp only;rw [Option.isSome_map,allF_some];simp
theorem formOf_some:∀(n:Nat)(t:Tre),(formOf n t).isSome=isForm n t
 | 0,_=>rfl
 | n+1,t=>by
  have hf:(fun x=>(formOf n x).isSome)=isForm n:=funext (formOf_some n)
  cases t with
  | lit x =>
   cases x with
   | string s =>
    show(if kwB s=true then none else some (mkF .name s .nil [] [])).isSome=!kwB s
    cases kwB s<;>rfl
   | _=>rfl
  | agg ks =>show(listF (formOf n) ks).isSome=listForm (isForm n) ks;rw [sV,hf]
  | _=>rfl
end Pl
end
section
open Go.RowKit
variable {w w':World} {wb sz n k:Nat} {M:Nat->Prop} {T:TypeId} {xs qs cs:List Value} {v pv qv cv lv gv:Value}
def fW:Option Nat->Int
 | some k=>k
 | none=>-1
theorem d6(k:Nat):fW (some k)=k:=rfl
theorem aX{α:Type}(f:α->List Value)(sz:Nat)(hf:∀a,(f a).length=sz)(l:List α)(i j:Nat)(a:α)(hi:l[i]?=some a)(hj:j<sz):(l.flatMap f)[i*sz+j]?=(f a)[j]? := by
 induction l generalizing i with
 | nil=>simp at hi
 | cons x l ih =>
  simp only [List.flatMap_cons]
  cases i with
  | zero =>simp only [List.getElem?_cons_zero,Option.some.injEq] at hi;subst hi;rw [List.getElem?_append_left (by rw [hf];omega)];simp
  | succ i =>rw [List.getElem?_append_right (by rw [hf,Nat.add_mul];omega),hf];rw [show(i+1)*sz+j-sz=i*sz+j from by rw [Nat.add_mul];omega];exact ih i (by simpa using hi)
theorem Sl.cell{ao:Option Addr}{cap:Nat}(h:Sl M w T sz (.slice ao n cap) n xs)(hn:0<n):∃g off,ao=some ⟨g,off,none⟩/\g<w.heap.size/\¬M g/\∀(i:Nat)(u:Value),xs[i]?=some u->w.cell? ⟨g,off+i,none⟩=some u:=by
 obtain⟨_,ao',cap',e,_,h3⟩:=h;simp only [Value.slice.injEq,true_and] at e;obtain⟨rfl,rfl⟩:=e;rcases h3 with h3 | ⟨g,off,cur,rfl,hm,hg,hc⟩
 ·omega
 ·exact⟨g,off,rfl,aB hg,hm,fun i u hu=>(aA hg _).trans (hc i u hu)⟩
theorem Sl.shape(h:Sl M w T sz v n xs):∃ao cap,v=.slice ao n cap/\n<=cap:=by obtain⟨_,ao,cap,e,hc,_⟩:=h;exact⟨ao,cap,e,hc⟩
theorem gT(h:w.ownsRow 0 T sz v n xs):Sl (fun _=>False) w T sz v n xs:=by
 refine⟨h.1,?_⟩;rcases h.2 with⟨rfl,rfl⟩ | ⟨g,cap,cur,rfl,_,hg,hc,_,hs,ht⟩
 ·exact⟨none,0,rfl,Nat.le_refl _,.inl rfl⟩
 ·refine⟨some ⟨g,0,none⟩,cap,rfl,hc,.inr ⟨g,0,cur,rfl,id,hg,fun i u hu=>?_⟩⟩;rw [Nat.zero_add];rw [<- ht,List.getElem?_take] at hu;split at hu
  ·simpa using hu
  ·simp at hu
theorem aAI(env:Env)(i:Nat)(b:Byt×Nat)(h:env[i]?=some b):(env.flatMap iM)[i*2]?=some (byV b.1)/\(env.flatMap iM)[i*2+1]?=some (.int .i64 b.2) :=⟨aX iM 2 (fun _=>rfl) env i 0 b h (by decide),aX iM 2 (fun _=>rfl) env i 1 b h (by decide)⟩
theorem aAG(env:Env)(s:Byt)(i:Nat)(b:Byt×Nat)(h:env[i]?=some b)(hd:Pl.find (env.drop (i+1)) s=none)(he:b.1=s):Pl.find env s=some b.2:=by
 have h1:env=env.take i++(b::env.drop (i+1)):=by have hi:=(List.getElem?_eq_some_iff.1 h).1;have hb:=(List.getElem?_eq_some_iff.1 h).2;rw [<- hb,List.getElem_cons_drop,List.take_append_drop]
 rw [h1,Pl.find_append];simp [Pl.find,hd,he]
theorem wN(env:Env)(s:Byt)(i:Nat)(b:Byt×Nat)(h:env[i]?=some b)(hd:Pl.find (env.drop (i+1)) s=none)(he:¬b.1=s):Pl.find (env.drop i) s=none:=by have hi:=(List.getElem?_eq_some_iff.1 h).1;have hb:=(List.getElem?_eq_some_iff.1 h).2;rw [<- List.getElem_cons_drop hi,hb];simp [Pl.find,hd,he]
theorem lM(M:Nat->Prop)(w:World)(v:Value)(env:Env)(s:Byt)(h:EnvAt M w v env)(hl:env.length<=4611686018427387904) :Calls prog 124 #[v,.string ⟨s.toArray⟩] w fun e w'=>e=.returned (.int .i64 (fW (Pl.find env s)))/\w=w':=by
 obtain⟨ao,cap,rfl,hcap⟩:=h.shape;have H:Hid (EnvAt M w _ env):=h;clear h;go_enter func124,ntmps124;go_wp2_with fail
 go_loopw [5] (fun i wr=>∃k:Nat,k<=env.length/\i=.int .i64 ((k:Int)-1)/\wr=w/\Hid (Pl.find (env.drop k) s=none)) (fun i _=>(intOf i+1).toNat)
 case atStart=>exact⟨env.length,Nat.le_refl _,by go_num,rfl,by simp [Hid,Pl.find]⟩
 case round =>
  obtain⟨k,hk,rfl,rfl,HN⟩:=hrel;by_cases hk0:k=0
  ·subst hk0;have HE:Hid (Pl.find env s=none):=show Pl.find env s=none from by simpa using HN.out
   go_wp2_with fail
   go_ret;exact⟨by rw [HE.out];rfl,rfl⟩
  ·obtain⟨i,rfl⟩:∃i,k=i+1:=⟨k-1,by omega⟩
   obtain⟨b,hb⟩:∃b,env[i]?=some b:=⟨env[i]'(by omega),List.getElem?_eq_getElem (by omega)⟩
   obtain⟨g,off,rfl,hg,_,hc⟩:=Sl.cell H.out (by omega);obtain⟨e0,e1⟩:=aAI env i b hb;have c0:=hc _ _ e0;have c1:=hc _ _ e1;rw [<- Nat.add_assoc] at c1;unfold byV at c0;have hi1:((i+1:Nat):Int)-1=(i:Int):=by omega
   rw [hi1];have hlt:(i:Int)<(env.length:Int):=by omega
   by_cases he:b.1=s
   ·have HE:Hid (Pl.find env s=some b.2):=aAG env s i b hb HN.out he;have hbe:(b.1==s)=true:=by simpa using he
    clear hb hc e0 e1 he;go_wp2_with fail;go_ret;exact⟨by rw [HE.out];rfl,rfl⟩
   ·have HE:Hid (Pl.find (env.drop i) s=none):=wN env s i b hb HN.out he;have hbe:(b.1==s)=false:=by simpa using he
    clear hb hc e0 e1 he;go_wp2_with fail;exact⟨⟨i,by omega,by go_num,trivial,HE⟩,by simp [intOf]⟩
def Mof(wb:Nat)(l:List Value)(k:Nat):Prop:=k=wb\/∃v∈l,Value.ownBlock v=some k
structure RWs(w:World)(wb:Nat)(W:PW)(pv qv cv lv gv:Value)(qs cs:List Value):Prop where
 blk:w.heap[wb]?=some (.cells #[pv,qv,cv,lv,gv,byV W.out] TWd (0,0))
 pr:w.ownsRow 0 TPa 6 pv W.pairs.length (W.pairs.flatMap mG)
 pc:w.ownsRow 0 TPc 2 qv W.procs.length qs
 pcs:∀(i:Nat)(p:PF×Env),W.procs[i]?=some p->∃fv ev,qs[i*2]?=some fv/\qs[i*2+1]?=some ev/\RF w fv p.1/\p.1.k=.lambda/\EnvAt (Mof wb [pv,qv,cv,lv,gv]) w ev p.2
 cn:w.ownsRow 0 TFrP 1 cv W.conts.length cs
 cns:∀(i:Nat)(fs:List PFr),W.conts[i]?=some fs->∃u,cs[i]?=some u/\FrAt (Mof wb [pv,qv,cv,lv,gv]) w u fs
 pl:w.ownsRow 0 TV 3 lv W.places.length (W.places.flatMap cZ)
 gl:w.ownsRow 0 TB 2 gv W.globals.length (W.globals.flatMap iM)
 out:W.out.length<=1000
def RW(w:World)(wb:Nat)(M:Nat->Prop)(W:PW):Prop:=∃pv qv cv lv gv qs cs,M=Mof wb [pv,qv,cv,lv,gv]/\RWs w wb W pv qv cv lv gv qs cs
theorem aN{b:Nat}(h:w.ownsRow b T sz v n xs):∀k,v.ownBlock=some k->∃cur,w.heap[k]?=some (.cells cur T (0,0)):=by
 intro k hk;rcases h.2 with⟨rfl,_⟩ | ⟨g,cap,cur,rfl,_,hg,_⟩
 ·simp [Value.ownBlock] at hk
 ·simp only [Value.ownBlock,Option.some.injEq] at hk;subst hk;exact⟨cur,hg⟩
theorem aK{c1 c2:Array Value}{T1 T2:TypeId}(h1:w.heap[k]?=some (.cells c1 T1 (0,0)))(h2:w.heap[k]?=some (.cells c2 T2 (0,0))):c1=c2/\T1=T2:=by rw [h1] at h2;simp only [Option.some.injEq,Obj.cells.injEq,and_true] at h2;exact h2
theorem RWs.mty{W:PW}(h:RWs w wb W pv qv cv lv gv qs cs):Mty (Mof wb [pv,qv,cv,lv,gv]) w:=by
 intro k cur e hm hk hi
 have hT:e=TWd\/e=TPa\/e=TPc\/e=TFrP\/e=TV\/e=TB:=by
  rcases hm with rfl | ⟨v,hv,hb⟩
  ·exact .inl (aK hk h.blk).2
  ·simp only [List.mem_cons,List.not_mem_nil,or_false] at hv;rcases hv with rfl | rfl | rfl | rfl | rfl
   ·obtain⟨c,hc⟩:=aN h.pr k hb;exact .inr (.inl (aK hk hc).2)
   ·obtain⟨c,hc⟩:=aN h.pc k hb;exact .inr (.inr (.inl (aK hk hc).2))
   ·obtain⟨c,hc⟩:=aN h.cn k hb;exact .inr (.inr (.inr (.inl (aK hk hc).2)))
   ·obtain⟨c,hc⟩:=aN h.pl k hb;exact .inr (.inr (.inr (.inr (.inl (aK hk hc).2))))
   ·obtain⟨c,hc⟩:=aN h.gl k hb;exact .inr (.inr (.inr (.inr (.inr (aK hk hc).2))))
 revert hi
 rcases hT with rfl | rfl | rfl | rfl | rfl | rfl<;>(unfold imT;decide)
theorem RW.mty{W:PW}(h:RW w wb M W):Mty M w:=by obtain⟨pv,qv,cv,lv,gv,qs,cs,rfl,h⟩:=h;exact h.mty
theorem RW.notM{W:PW}(h:RW w wb M W){cur:Array Value}{e:TypeId}(hk:w.heap[k]?=some (.cells cur e (0,0)))(h1:¬(e=TWd\/e=TPa\/e=TPc\/e=TFrP\/e=TV\/e=TB)):¬M k:=by
 obtain⟨pv,qv,cv,lv,gv,qs,cs,rfl,h⟩:=h;intro hm;apply h1;rcases hm with rfl | ⟨v,hv,hb⟩
 ·exact .inl (aK hk h.blk).2
 ·simp only [List.mem_cons,List.not_mem_nil,or_false] at hv;rcases hv with rfl | rfl | rfl | rfl | rfl
  ·obtain⟨c,hc⟩:=aN h.pr k hb;exact .inr (.inl (aK hk hc).2)
  ·obtain⟨c,hc⟩:=aN h.pc k hb;exact .inr (.inr (.inl (aK hk hc).2))
  ·obtain⟨c,hc⟩:=aN h.cn k hb;exact .inr (.inr (.inr (.inl (aK hk hc).2)))
  ·obtain⟨c,hc⟩:=aN h.pl k hb;exact .inr (.inr (.inr (.inr (.inl (aK hk hc).2))))
  ·obtain⟨c,hc⟩:=aN h.gl k hb;exact .inr (.inr (.inr (.inr (.inr (aK hk hc).2))))
theorem RW.lt{W:PW}(h:RW w wb M W)(hm:M k):k<w.heap.size:=by
 obtain⟨pv,qv,cv,lv,gv,qs,cs,rfl,h⟩:=h;rcases hm with rfl | ⟨v,hv,hb⟩
 ·exact aB h.blk
 ·simp only [List.mem_cons,List.not_mem_nil,or_false] at hv;rcases hv with rfl | rfl | rfl | rfl | rfl
  ·exact(h.pr.lt k hb).2
  ·exact(h.pc.lt k hb).2
  ·exact(h.cn.lt k hb).2
  ·exact(h.pl.lt k hb).2
  ·exact(h.gl.lt k hb).2
structure Chg(w w':World)(wb:Nat)(row:Option Nat):Prop where
 os:w'.os=w.os
 tape:w'.tape=w.tape
 output:w'.output=w.output
 size:w.heap.size<=w'.heap.size
 block:∀k,k<w.heap.size->k≠wb->some k≠row->w'.heap[k]?=w.heap[k]?
theorem aL{row:Option Nat}{Tr:TypeId}{cw:Array Value}(h:w.ownsRow 0 T sz v n xs)(hc:Chg w w' wb row)(hw:w.heap[wb]?=some (.cells cw TWd (0,0)))
  (hrow:∀k,row=some k->∃cur,w.heap[k]?=some (.cells cur Tr (0,0))) (h1:T≠TWd) (h2:T≠Tr):w'.ownsRow 0 T sz v n xs:=by
 refine⟨h.1,?_⟩;rcases h.2 with hn | ⟨g,cap,cur,rfl,hb,hg,rest⟩
 ·exact .inl hn
 ·refine .inr ⟨g,cap,cur,rfl,hb,?_,rest⟩;rw [hc.block g (aB hg) ?_ ?_]
  ·exact hg
  ·rintro rfl;exact h1 (aK hg hw).2
  ·intro e;obtain⟨c,hc⟩:=hrow g e.symm;exact h2 (aK hg hc).2
theorem Chg.stp{row:Option Nat}{l l':List Value}(hc:Chg w w' wb row)(hrow:∀k,row=some k->Mof wb l k)(hl:∀k,k<w.heap.size->Mof wb l' k->Mof wb l k):Stp (Mof wb l) w (Mof wb l') w' :=⟨hc.os,hc.tape,hc.output,hc.size,fun k hk hn=>⟨hc.block k hk (fun e=>hn (.inl e)) (fun e=>hn (hrow k e.symm)),fun h=>hn (hl k hk h)⟩⟩
theorem RWs.upd{W W':PW}{pv' qv' cv' lv' gv':Value}{qs' cs':List Value}(h:RWs w wb W pv qv cv lv gv qs cs)
  (hs:Stp (Mof wb [pv,qv,cv,lv,gv]) w (Mof wb [pv',qv',cv',lv',gv']) w')
  (hb:w'.heap[wb]?=some (.cells #[pv',qv',cv',lv',gv',byV W'.out] TWd (0,0)))
  (h1:w'.ownsRow 0 TPa 6 pv' W'.pairs.length (W'.pairs.flatMap mG)) (h2:w'.ownsRow 0 TPc 2 qv' W'.procs.length qs') (h3:w'.ownsRow 0 TFrP 1 cv' W'.conts.length cs')
  (h4:w'.ownsRow 0 TV 3 lv' W'.places.length (W'.places.flatMap cZ)) (h5:w'.ownsRow 0 TB 2 gv' W'.globals.length (W'.globals.flatMap iM)) (h6:W'.out.length<=1000)
  (hp:∀(i:Nat)(p:PF×Env),W'.procs[i]?=some p->(W.procs[i]?=some p/\qs'[i*2]?=qs[i*2]? /\ qs'[i*2+1]?=qs[i*2+1]?)\/∃fv ev,qs'[i*2]?=some fv/\qs'[i*2+1]?=some ev/\RF w' fv p.1/\p.1.k=.lambda/\EnvAt (Mof wb [pv',qv',cv',lv',gv']) w' ev p.2)
  (hk:∀(i:Nat)(fs:List PFr),W'.conts[i]?=some fs->(W.conts[i]?=some fs/\cs'[i]?=cs[i]?)\/∃u,cs'[i]?=some u/\FrAt (Mof wb [pv',qv',cv',lv',gv']) w' u fs):RWs w' wb W' pv' qv' cv' lv' gv' qs' cs':=by
 refine⟨hb,h1,h2,?_,h3,?_,h4,h5,h6⟩
 ·intro i p hi;rcases hp i p hi with⟨e1,e2,e3⟩ | h
  ·obtain⟨fv,ev,a,b,c,d,e⟩:=h.pcs i p e1;exact⟨fv,ev,e2.trans a,e3.trans b,c.keep (hs.keepI h.mty),d,e.stp hs⟩
  ·exact h
 ·intro i fs hi;rcases hk i fs hi with⟨e1,e2⟩ | h
  ·obtain⟨u,a,b⟩:=h.cns i fs e1;exact⟨u,e2.trans a,FrAt.stp hs h.mty _ _ b⟩
  ·exact h
theorem RWs.later{W:PW}(h:RWs w wb W pv qv cv lv gv qs cs)(hb:∀k,k<w.heap.size->w'.heap[k]?=w.heap[k]?)(hs:Stp (Mof wb [pv,qv,cv,lv,gv]) w (Mof wb [pv,qv,cv,lv,gv]) w'):RWs w' wb W pv qv cv lv gv qs cs:=by
 have hr:∀{T:TypeId} {sz:Nat} {v:Value} {n:Nat} {xs:List Value},w.ownsRow 0 T sz v n xs->w'.ownsRow 0 T sz v n xs:=by
  intro T sz v n xs h;refine⟨h.1,?_⟩;rcases h.2 with hn | ⟨g,cap,cur,rfl,h0,hg,rest⟩
  ·exact .inl hn
  ·exact .inr ⟨g,cap,cur,rfl,h0,(hb g (aB hg)).trans hg,rest⟩
 exact h.upd hs ((hb wb (aB h.blk)).trans h.blk) (hr h.pr) (hr h.pc) (hr h.cn) (hr h.pl) (hr h.gl) h.out (fun i p hi=>.inl ⟨hi,rfl,rfl⟩) (fun i fs hi=>.inl ⟨hi,rfl⟩)
theorem RW.later{W:PW}(h:RW w wb M W)(hb:Below w.heap.size w w'):RW w' wb M W:=by obtain⟨pv,qv,cv,lv,gv,qs,cs,rfl,h⟩:=h;exact⟨pv,qv,cv,lv,gv,qs,cs,rfl,h.later (fun k hk=>hb.block k hk) (Stp.of_below hb)⟩
theorem fJ{l l':List Value}{v':Value}(hv:v∈l)(hl:∀x∈l',x∈l\/x=v')(hat:∀k,v'.ownBlock=some k->v.ownBlock=some k\/w.heap.size<=k):∀k,k<w.heap.size->Mof wb l' k->Mof wb l k:=by
 intro k hk hm;rcases hm with e | ⟨x,hx,hb⟩
 ·exact .inl e
 ·rcases hl x hx with h1 | rfl
  ·exact .inr ⟨x,h1,hb⟩
  ·rcases hat k hb with h2 | h2
   ·exact .inr ⟨v,hv,h2⟩
   ·omega
end
end Go.Proofs.YtkgbdddkcjpgfaaGreatDoor
