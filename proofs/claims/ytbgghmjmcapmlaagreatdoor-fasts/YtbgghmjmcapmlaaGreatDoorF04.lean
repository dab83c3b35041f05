import Derived.Lib.ItoaNum
import Derived.Test.YtbgghmjmcapmlaaGreatDoorF03
namespace Go.Proofs.YtbgghmjmcapmlaaGreatDoor
set_option maxHeartbeats 1000000
set_option maxRecDepth 100000
theorem zC2{P:Prop}(h:P:=by
 rcases i with rfl | ⟨v,f,d⟩
 ·exact .inl (aK b h.blk).2
 ·simp only [List.mem_cons,List.not_mem_nil,or_false] at f;rcases f with rfl | rfl | rfl | rfl | rfl
  ·obtain⟨c,a⟩:=aN h.pr k d;exact .inr (.inl (aK b a).2)
  ·obtain⟨c,a⟩:=aN h.pc k d;exact .inr (.inr (.inl (aK b a).2))
  ·obtain⟨c,a⟩:=aN h.cn k d;exact .inr (.inr (.inr (.inl (aK b a).2)))
  ·obtain⟨c,a⟩:=aN h.pl k d;exact .inr (.inr (.inr (.inr (.inl (aK b a).2))))
  ·obtain⟨c,a⟩:=aN h.gl k d;exact .inr (.inr (.inr (.inr (.inr (aK b a).2))))):P:=h
theorem zC3{P:Prop}(h:P:=by
 by_cases a:i<l.length
 ·left;rwa [List.getElem?_append_left a] at h
 ·right;rw [List.getElem?_append_right x8] at h;by_cases b:i-l.length=0
  ·rw [b] at h;simp at h;exact⟨x8,h.symm⟩
  ·rw [List.getElem?_eq_none r7] at h;simp at h):P:=h
theorem zC4{P:Prop}(h:P:=by go_wp2_with fail;go_ret;exact⟨by rw [c.out];rfl,rfl⟩):P:=h
section
namespace Pl
abbrev AE:=Q7
inductive PV where
 | num (n:Int)
 | AT (b:Bool)
 | name (s:AE)
 | empty
 | nothing
 | pair (n:Nat)
 | proc (n:Nat)
 | cont (n:Nat)
 | AZ (s:AE)
 deriving DecidableEq
inductive FK where
 | const
 | name
 | iff
 | set
 | define
 | lambda
 | begin
 | call
 deriving DecidableEq
inductive PF where
 | mk (k:FK) (nm:AE) (d:A9) (v:PV) (ks:List PF) (ns:List AE)
namespace PF
def k:PF->FK
 | .mk k _ _ _ _ _=>k
def nm:PF->AE
 | .mk _ nm _ _ _ _=>nm
def d:PF->A9
 | .mk _ _ d _ _ _=>d
def v:PF->PV
 | .mk _ _ _ v _ _=>v
def ks:PF->List PF
 | .mk _ _ _ _ ks _=>ks
def ns:PF->List AE
 | .mk _ _ _ _ _ ns=>ns
end PF
abbrev Env:=List (AE×Nat)
structure CW where
 form:PF
 B8:List PV
 pos:Nat
 env:Env
structure PW where
 pairs:List (PV×PV)
 procs:List (PF×Env)
 AG:List (List CW)
 places:List PV
 globals:Env
 out:AE
structure PS where
 form:Option PF
 env:Env
 val:PV
 AB:List CW
structure SR where
 e:Nat
 W:PW
 S:PS
def find:Env->AE->Option Nat
 | [],_=>none
 | b::r,s=>match find r s with
  | some k=>some k
  | none=>if b.1=s then some b.2 else none
theorem FJ(a b:Env)(s:AE):find (a++b) s=match find b s with
  | some k=>some k
  | none=>find a s:=by
 induction a with
 | nil=>simp only [List.nil_append];cases find b s<;>rfl
 | cons x a c =>
  simp only [List.cons_append,find,c]
  cases find b s<;>rfl
def DL(W:PW)(env:Env)(s:AE):Option Nat:=match find env s with
 | some k=>some k
 | none=>find W.globals s
def bind(W:PW)(s:AE)(v:PV):PW:=match find W.globals s with
 | some k=>{W with places:=W.places.set k v}
 | none=>{W with places:=W.places++[v],globals:=W.globals++[(s,W.places.length)]}
def PS.A1(S:PS)(v:PV):PS:={S with form:=none,val:=v}
def PS.work(S:PS)(f:Option PF)(env:Env):PS:={S with form:=f,env:=env}
def PS.push(S:PS)(f:CW):PS:={S with AB:=f::S.AB}
def C1(l:List AE)(n:Nat):Env:=match l with
 | []=>[]
 | s::r=>(s,n)::C1 r (n+1)
theorem NS(a b:List AE)(n:Nat):C1 (a++b) n=C1 a n++C1 b (n+a.length):=by
 induction a generalizing n with
 | nil=>rfl
 | cons x a c =>simp only [List.cons_append,C1,c,c_];rw [show n+1+a.length=n+(a.length+1) from by omega]
def itoa(n:Int):AE:=Lib.itoa n
def J6:AE:=[35,112,114,111,99,101,100,117,114,101]
def OF:PV->AE
 | .num n=>itoa n
 | .AT b=>if b then [35,116] else [35,102]
 | .name s=>s
 | .empty=>[40,41]
 | .nothing=>[]
 | .pair _=>[]
 | _=>J6
mutual
def KW(ps:List (PV×PV)):Nat->PV->AE
 | 0,_=>[]
 | n+1,.pair i=>match ps[i]? with
  | some p=>40::(KW ps n p.1++tails ps n p.2)
  | none=>[]
 | _+1,v=>OF v
def tails(ps:List (PV×PV)):Nat->PV->AE
 | 0,_=>[]
 | n+1,.pair i=>match ps[i]? with
  | some p=>32::(KW ps n p.1++tails ps n p.2)
  | none=>[]
 | _+1,.empty=>[41]
 | _+1,v=>[32,46,32]++OF v++[41]
end
def B7:PV->Nat
 | .pair i=>i+1
 | _=>0
def text(ps:List (PV×PV))(v:PV):AE:=KW ps (B7 v+1) v
def cut(s:AE):AE:=if 200<s.length then s.take 200++[46,46] else s
def BH:AE:=[43]
def A4:AE:=[45]
def BA:AE:=[42]
def BW:AE:=[60]
def IA:AE:=[61]
def CS:AE:=[99,111,110,115]
def DN:AE:=[99,97,114]
def C8:AE:=[99,100,114]
def DY:AE:=[110,117,108,108,63]
def DW:AE:=[112,97,105,114,63]
def BR:AE:=[101,113,63]
def A7:AE:=[100,105,115,112,108,97,121]
def AU:AE:=[99,97,108,108,47,99,99]
def AO:List AE:=[BH,A4,BA,BW,IA,CS,DN,C8,DY,DW,BR,A7,AU]
def arity(s:AE):Nat:=if s=DN\/s=C8\/s=DY\/s=DW\/s=A7\/s=AU then 1 else 2
def reckon(W:PW)(S:PS)(s:AE)(a b:PV):SR:=match a,b with
 | .num x,.num y =>
  if s=BW then⟨0,W,S.A1 (.AT (decide (x<y)))⟩
  else if s=IA then⟨0,W,S.A1 (.AT (decide (x=y)))⟩
  else
   let n:=if s=BH then x+y else if s=A4 then x-y else x*y
   if n.natAbs<=Pl.CG then⟨0,W,S.A1 (.num n)⟩ else⟨11,W,S⟩
 | _,_=>⟨9,W,S⟩
def YH:PV->Bool
 | .pair _=>true
 | _=>false
def B0(W:PW)(S:PS)(s:AE)(a:PV):SR :=
 if s=A7 then
  let t:=cut (text W.pairs a)
  if W.out.length+t.length<=1000 then⟨0,{W with out:=W.out++t},S.A1 .nothing⟩ else⟨11,W,S⟩
 else if s=DN\/s=C8 then match a with
  | .pair i=>match W.pairs[i]? with
   | some p=>⟨0,W,S.A1 (if s=C8 then p.2 else p.1)⟩
   | none=>⟨9,W,S⟩
  | _=>⟨9,W,S⟩
 else if s=DY then⟨0,W,S.A1 (.AT (decide (a=.empty)))⟩
 else⟨0,W,S.A1 (.AT (YH a))⟩
def A2(W:PW)(S:PS)(s:AE)(a b:PV):SR :=
 if s=CS then⟨0,{W with pairs:=W.pairs++[(a,b)]},S.A1 (.pair W.pairs.length)⟩
 else if s=BR then⟨0,W,S.A1 (.AT (decide (a=b)))⟩
 else reckon W S s a b
def AH(W:PW)(S:PS)(f:PV)(args:List PV):SR:=match f with
 | .proc i=>match W.procs[i]? with
  | some p=>if args.length≠p.1.ns.length then⟨10,W,S⟩
   else⟨0,{W with places:=W.places++args},S.work p.1.ks[0]? (p.2++C1 p.1.ns W.places.length)⟩
  | none=>⟨9,W,S⟩
 | .cont i=>match args with
  | [a]=>⟨0,W,{S with AB:=W.AG[i]?.getD []}.A1 a⟩
  | _=>⟨10,W,S⟩
 | .AZ s=>if args.length≠arity s then⟨10,W,S⟩ else match args with
  | [a]=>B0 W S s a
  | [a,b]=>A2 W S s a b
  | _=>⟨10,W,S⟩
 | _=>⟨9,W,S⟩
def PW.keep(W:PW)(S:PS):PW:={W with AG:=W.AG++[S.AB]}
def apply(W:PW)(S:PS)(f:PV)(args:List PV):SR :=
 if f=.AZ AU then match args with
  | [a] =>
   let c:=PV.cont W.AG.length
   if a=.AZ AU then AH ((W.keep S).keep S) S c [.cont (W.AG.length+1)]
   else AH (W.keep S) S a [c]
  | _=>⟨10,W,S⟩
 else AH W S f args
def taken(W:PW)(S:PS):SR:=match S.AB with
 | []=>⟨9,W,S⟩
 | fr::rest =>
  let S1:={S with AB:=rest}
  match fr.form.k with
  | .iff=>⟨0,W,S1.work (if S.val=.AT false then fr.form.ks[2]? else fr.form.ks[1]?) fr.env⟩
  | .set=>match DL W fr.env fr.form.nm with
   | some k=>⟨0,{W with places:=W.places.set k S.val},S1.A1 .nothing⟩
   | none=>⟨8,W,S1⟩
  | .define=>⟨0,bind W fr.form.nm S.val,S1.A1 .nothing⟩
  | .begin=>⟨0,W,(if fr.pos+1<fr.form.ks.length then S1.push {fr with B8:=[],pos:=fr.pos+1} else S1).work fr.form.ks[fr.pos]? fr.env⟩
  | _ =>
   let B8:=fr.B8++[S.val]
   if fr.pos=fr.form.ks.length then match B8 with
    | []=>⟨9,W,S1⟩
    | g::args=>apply W S1 g args
   else⟨0,W,(S1.push {fr with B8:=B8,pos:=fr.pos+1}).work fr.form.ks[fr.pos]? fr.env⟩
def step(W:PW)(S:PS):SR:=match S.form with
 | none=>taken W S
 | some f=>match f.k with
  | .const=>⟨0,W,S.A1 f.v⟩
  | .name=>match DL W S.env f.nm with
   | some k=>⟨0,W,S.A1 (W.places[k]?.getD .nothing)⟩
   | none=>⟨8,W,S⟩
  | .lambda=>⟨0,{W with procs:=W.procs++[(f,S.env)]},S.A1 (.proc W.procs.length)⟩
  | .begin=>⟨0,W,(if 1<f.ks.length then S.push ⟨f,[],1,S.env⟩ else S).work f.ks[0]? S.env⟩
  | _=>⟨0,W,(S.push ⟨f,[],1,S.env⟩).work f.ks[0]? S.env⟩
def PS.ended(S:PS):Bool:=S.form.isNone&&S.AB.isEmpty
def A8:Nat->PW->PS->SR
 | 0,W,S=>if S.ended then⟨0,W,S⟩ else⟨7,W,S⟩
 | n+1,W,S=>if S.ended then⟨0,W,S⟩ else
  let r:=step W S
  if r.e=0 then A8 n r.W r.S else r
end Pl
end
open Go.Proofs.Tryz
open Pl (PV PW PF CW AE Env FK AO)
section
open Go.RowKit
variable {w w':World} {M M':Q5} {v:Value}
def TV:TypeId:=81
def TB:TypeId:=120
def VR:TypeId:=139
def VQ:TypeId:=132
def RX:TypeId:=93
def TFr:TypeId:=135
def NE:TypeId:=128
def LN:TypeId:=38
def JL:TypeId:=95
def MG:TypeId:=55
def TS:TypeId:=9
theorem Tryz.TU:(prog.info? 81).map (fun i=>(i.zero,i.size,i.bytes))=some (some (.agg #[.string ⟨#[]⟩,Q1 0,.string ⟨#[]⟩]),3,40):=by kernel_rfl
theorem Tryz.G_:(prog.info? 120).map (fun i=>(i.zero,i.size,i.bytes))=some (some (.agg #[.string ⟨#[]⟩,Q1 0]),2,24):=by kernel_rfl
theorem Tryz.TW:(prog.info? 139).map (fun i=>(i.zero,i.size,i.bytes))=some (some (.agg #[.string ⟨#[]⟩,Q1 0,.string ⟨#[]⟩,.string ⟨#[]⟩,Q1 0,.string ⟨#[]⟩]),6,80):=by kernel_rfl
theorem Tryz.infoPc:(prog.info? 132).map (fun i=>(i.zero,i.size,i.bytes))=some (some (.agg #[.pointer none,.slice none 0 0]),2,32):=by kernel_rfl
theorem Tryz.YN:(prog.info? 93).map (fun i=>(i.zero,i.size,i.bytes))=some (some (.pointer none),1,8):=by kernel_rfl
def AM(s:AE):Value:=.string ⟨s.toArray⟩
def pI:AE:=[112,97,105,114]
def kProc:AE:=[112,114,111,99,101,100,117,114,101]
def pJ:AE:=[99,111,110,116,105,110,117,97,116,105,111,110]
def pH:AE:=[112,114,105,109,105,116,105,118,101]
def kEmp:AE:=[101,109,112,116,121]
def kNot:AE:=[110,111,116,104,105,110,103]
def kNu:AE:=[110,117,109,98,101,114]
def F_:AE:=[116,114,117,116,104]
def kNa:AE:=[110,97,109,101]
def vK:PV->AE
 | .num _=>kNu
 | .AT _=>F_
 | .name _=>kNa
 | .empty=>kEmp
 | .nothing=>kNot
 | .pair _=>pI
 | .proc _=>kProc
 | .cont _=>pJ
 | .AZ _=>pH
def vN:PV->Int
 | .num n=>n
 | .AT b=>if b then 1 else 0
 | .pair n=>n
 | .proc n=>n
 | .cont n=>n
 | _=>0
def vS:PV->AE
 | .name s=>s
 | .AZ s=>s
 | _=>[]
def cZ(v:PV):List Value:=[AM (vK v),Q1 (vN v),AM (vS v)]
def bT(v:PV):Value:=.agg #[AM (vK v),Q1 (vN v),AM (vS v)]
def iM(b:AE×Nat):List Value:=[AM b.1,Q1 b.2]
def mG(p:PV×PV):List Value:=cZ p.1++cZ p.2
def Sl(M:Q5)(w:World)(T:TypeId)(sz:Nat)(v:Value)(n:Nat)(xs:List Value):Prop :=xs.length=n*sz/\∃ao cap,v=.slice ao n cap/\n<=cap/\(n=0\/∃g off cur,ao=some ⟨g,off,none⟩/\¬M g/\w.heap[g]?=some (.cells cur T (0,0))/\∀(i:Nat)(u:Value),xs[i]?=some u->cur[off+i]?=some u)
def DF(M:Q5)(w:World)(v:Value)(env:Env):Prop:=Sl M w TB 2 v env.length (env.flatMap iM)
def CO(M:Q5)(w:World)(v:Value)(l:List PV):Prop:=Sl M w TV 3 v l.length (l.flatMap cZ)
def H5:FK->AE
 | .const=>[99,111,110,115,116]
 | .name=>kNa
 | .iff=>Pl.VN
 | .set=>Pl.LR
 | .define=>Pl.CK
 | .lambda=>Pl.C3
 | .begin=>Pl.FX
 | .call=>[99,97,108,108]
def shape:FK->Nat->Prop
 | .const,n=>n=0
 | .name,n=>n=0
 | .iff,n=>n=3
 | .set,n=>n=1
 | .define,n=>n=1
 | .lambda,n=>n=1
 | .begin,n=>1<=n
 | .call,n=>1<=n
def LT:Nat->World->Value->PF->Prop
 | 0,_,_,_=>False
 | n+1,w,v,.mk k nm d pv ks ns=>∃b dv kv nv c0 c1 c2 us,v=(Q0 b) /\
   w.heap[b]?=some (.cells #[AM (H5 k),AM nm,dv,kv,nv,c0,c1,c2] NE (0,0)) /\
   w.ownsRow 0 LN 1 kv ks.length us/\(∀(i:Nat)(u:Value)(x:PF),us[i]?=some u->ks[i]?=some x->LT n w u x) /\
   w.ownsRow 0 TS 1 nv ns.length (ns.map AM)/\(k=.const->[c0,c1,c2]=cZ pv/\∃m,AJ (fun _=>True) m w dv d)/\shape k ks.length/\ks.length<=1000/\ns.length<=1000
def RF(w:World)(v:Value)(f:PF):Prop:=∃n,LT n w v f
def DT(M:Q5)(w:World):Value->List CW->Prop
 | v,[]=>v=.pointer none
 | v,f::r=>∃b fv gv ev up,v=(Q0 b)/\w.heap[b]?=some (.cells #[fv,gv,Q1 f.pos,ev,up,Q1 (r.length+1:Nat)] TFr (0,0)) /\
   RF w fv f.form/\CO M w gv f.B8/\DF M w ev f.env/\DT M w up r
def RH(e:TypeId):Prop:=e=TD\/e=TP\/e=NE\/e=LN\/e=TS\/e=TFr
def IX(w w':World):Prop:=∀(k:Nat)(cur:Array Value)(e:TypeId),RH e->w.heap[k]?=some (.cells cur e (0,0))->w'.heap[k]?=some (.cells cur e (0,0))
structure Stp(M:Q5)(w:World)(M':Q5)(w':World):Prop where
 os:w'.os=w.os
 tape:w'.tape=w.tape
 output:w'.output=w.output
 size:w.heap.size<=w'.heap.size
 block:∀k,k<w.heap.size->¬M k->w'.heap[k]?=w.heap[k]? /\ ¬M' k
theorem Stp.refl(M:Q5)(w:World):Stp M w M w:=⟨rfl,rfl,rfl,n_,fun _ _ h=>⟨rfl,h⟩⟩
theorem Stp.trans{M1 M2 M3:Q5}{a b c:World}(h:Stp M1 a M2 b)(k:Stp M2 b M3 c):Stp M1 a M3 c :=
 ⟨k.os.trans h.os,k.tape.trans h.tape,k.output.trans h.output,t_ h.size k.size,fun i d e=>by
  obtain⟨f,g⟩:=h.block i d e;obtain⟨j,l⟩:=k.block i (l_ d h.size) g
  exact⟨j.trans f,l⟩⟩
theorem Stp.AA(h:Q3 w w'):Stp M w M w':=⟨h.os,h.tape,h.output,h.size,fun k a b=>⟨h.block k a,b⟩⟩
theorem Stp.DX{row:Option Nat}(h:w.grownBy w' row)(b:∀k,row=some k->M k):Stp M w M w' :=⟨h.os,h.tape,h.output,h.size,fun k c a=>⟨h.block k c (fun e=>a (b k e.symm)),a⟩⟩
def Mty(M:Q5)(w:World):Prop:=∀k cur e,M k->w.heap[k]?=some (.cells cur e (0,0))->¬RH e
theorem Stp.MD(h:Stp M w M' w')(c:Mty M w):IX w w':=fun k a e d b =>(h.block k (aB b) (fun f=>c k a e f b d)).1.trans b
theorem IX.ME(h:IX w w'):CU (fun _=>True) w w':=fun k a e _ b c=>h k a e (b.elim .inl (fun x=>.inr (.inl x))) c
theorem f9{n:Nat}{xs:List Value}{T:TypeId}(d:IX w w')(e:RH T)(h:w.ownsRow 0 T 1 v n xs):w'.ownsRow 0 T 1 v n xs:=by
 refine⟨h.1,?_⟩;rcases h.2 with f | ⟨g,c,a,rfl,i,j,b⟩
 ·exact .inl f
 ·exact .inr ⟨g,c,a,rfl,i,d g a T e j,b⟩
theorem LT.keep(a:IX w w'):∀(n:Nat)(v:Value)(f:PF),LT n w v f->LT n w' v f
 | 0,_,_,h=>h
 | n+1,v,.mk k F d G H I,h=>by
  obtain⟨b,g,j,l,o,p,q,r,s,t,y,z,A,c,B⟩:=h
  exact⟨b,g,j,l,o,p,q,r,s,a b _ _ (.inr (.inr (.inl rfl))) t,f9 a (.inr (.inr (.inr (.inl rfl)))) y,fun i u x C D=>LT.keep a n u x (z i u x C D),
   f9 a (.inr (.inr (.inr (.inr (.inl rfl))))) A,fun e=>⟨(c e).1,(c e).2.elim fun m E=>⟨m,AJ.keep a.ME _ _ _ E⟩⟩,B⟩
theorem RF.keep(a:IX w w'){f:PF}(h:RF w v f):RF w' v f:=h.elim fun n b=>⟨n,LT.keep a n v f b⟩
theorem Sl.AQ{T:TypeId}{sz:Nat}{n:Nat}{xs:List Value}(h:Stp M w M' w')(e:Sl M w T sz v n xs):Sl M' w' T sz v n xs:=by obtain⟨f,i,a,rfl,j,k⟩:=e;refine⟨f,i,a,rfl,j,k.imp id ?_⟩;rintro⟨g,b,c,rfl,l,d,m⟩;obtain⟨o,p⟩:=h.block g (aB d) l;exact⟨g,b,c,rfl,p,o.trans d,m⟩
theorem DT.AQ(h:Stp M w M' w')(a:Mty M w):∀(v:Value)(l:List CW),DT M w v l->DT M' w' v l
 | _,[],c=>c
 | _,_::r,c=>by obtain⟨b,e,f,g,d,i,j,k,m,n,o⟩:=c;exact⟨b,e,f,g,d,i,h.MD a b _ _ (.inr (.inr (.inr (.inr (.inr rfl))))) j,k.keep (h.MD a),m.AQ h,n.AQ h,DT.AQ h a d r o⟩
def BL(W:PW):PV->Prop
 | .num n=>n.natAbs<=Pl.CG
 | .pair i=>i<W.pairs.length
 | .proc i=>i<W.procs.length
 | .cont i=>i<W.AG.length
 | .AZ s=>s∈AO
 | .name s=>s.length<=300
 | _=>True
def LG(W:PW)(env:Env):Prop:=∀b∈env,b.2<W.places.length
end
section
namespace Pl
def BN(k:FK)(nm:AE)(d:A9)(ks:List PF)(ns:List AE):PF:=.mk k nm d .nothing ks ns
def B1(f:A9->Option PF):List A9->Option (List PF)
 | []=>some []
 | x::r=>(f x).bind fun a=>(B1 f r).map fun l=>a::l
def EA(f:A9->Option PF)(ns body:A9):Option PF:=match ns with
 | .agg l=>if CJ l then(f body).map fun b=>BN .lambda [] .nil [b] (l.map strOf) else none
 | _=>none
def D5(f:A9->Option PF)(ps body:A9):Option PF:=match ps with
 | .agg l=>if l.all BI then(EA f (.agg (l.map DC)) body).bind fun h=>(B1 f (l.map BU)).map fun r=>BN .call [] .nil (h::r) [] else none
 | _=>none
def E6(k:FK)(f:A9->Option PF)(r:List A9):Option PF:=match r with
 | [n,e]=>if isName n then(f e).map fun b=>BN k (strOf n) .nil [b] [] else none
 | _=>none
def J9(f:A9->Option PF)(r:List A9):Option PF:=match r with
 | [n,e]=>EA f n e
 | _=>none
def J8(f:A9->Option PF)(r:List A9):Option PF:=match r with
 | [n,e]=>D5 f n e
 | _=>none
def IN(f:A9->Option PF)(t:A9)(h:Q7)(r:List A9):Option PF :=
 if h=CB then(if r.length==1 then some (BN .const [] t [] []) else none)
 else if h=VN then(if r.length==3 then(B1 f r).map fun l=>BN .iff [] .nil l [] else none)
 else if h=FX then(if !r.isEmpty then(B1 f r).map fun l=>BN .begin [] .nil l [] else none)
 else if h=LR then E6 .set f r
 else if h=C3 then J9 f r
 else if h=K2 then J8 f r
 else none
def N4(f:A9->Option PF)(ks:List A9):Option PF:=match ks with
 | []=>none
 | k::r=>match BJ (k::r) with
  | some h=>IN f (.agg (k::r)) h r
  | none=>(B1 f (k::r)).map fun l=>BN .call [] .nil l []
def AD:Nat->A9->Option PF
 | 0,_=>none
 | n+1,t=>match t with
  | .lit (.int k m)=>some (BN .const [] (.lit (.int k m)) [] [])
  | .lit (.bool x)=>some (BN .const [] (.lit (.bool x)) [] [])
  | .lit (.string s)=>if EE s then none else some (BN .name s .nil [] [])
  | .agg ks=>N4 (AD n) ks
  | _=>none
def BZ(n:Nat)(t:A9):Option PF:=match t with
 | .agg (.lit (.string h)::r)=>if h=CK then E6 .define (AD n) r else AD (n+1) t
 | _=>AD (n+1) t
theorem II(f:A9->Option PF)(l:List A9):(B1 f l).isSome=l.all fun x=>(f x).isSome:=by
 induction l with
 | nil=>rfl
 | cons x r c =>
  unfold B1
  cases b:f x with
  | none=>simp [b]
  | some a =>simp only [Option.bind_some,Option.isSome_map,List.all_cons,b,Option.isSome_some,Bool.true_and];exact c
theorem gL(b:Bool)(o:Option PF):(if b=true then o else none).isSome=(b&&o.isSome):=by cases b<;>simp
theorem nU(f:A9->Option PF)(ns a:A9):(EA f ns a).isSome=D_ (fun x=>(f x).isSome) ns a:=by
 cases ns with
 | agg l =>
  show(if CJ l=true then(f a).map (fun b=>BN .lambda [] .nil [b] (l.map strOf)) else none).isSome=(CJ l&&(f a).isSome)
  rw [gL,Option.isSome_map]
 | _=>rfl
theorem vX(f:A9->Option PF)(ps a:A9):(D5 f ps a).isSome=C_ (fun x=>(f x).isSome) ps a:=by
 cases ps with
 | agg l =>
  show(if l.all BI=true then(EA f (.agg (l.map DC)) a).bind (fun h=>(B1 f (l.map BU)).map fun r=>BN .call [] .nil (h::r) []) else none).isSome=(l.all BI&&(CJ (l.map DC)&&(f a).isSome)&&(l.map BU).all fun x=>(f x).isSome)
  have b:(EA f (.agg (l.map DC)) a).isSome=(CJ (l.map DC)&&(f a).isSome):=nU f _ _;rw [gL,<-b,<-II]
  cases EA f (.agg (l.map DC)) a<;>simp
 | _=>rfl
theorem JZ(k:FK)(f:A9->Option PF)(r:List A9):(E6 k f r).isSome=OI (fun x=>(f x).isSome) r:=by
 match r with
 | []=>rfl
 | [_]=>rfl
 | [n,e] =>
  show(if isName n=true then(f e).map (fun b=>BN k (strOf n) .nil [b] []) else none).isSome=(isName n&&(f e).isSome)
  rw [gL,Option.isSome_map]
 | _::_::_::_=>rfl
theorem sX(f:A9->Option PF)(r:List A9):(J9 f r).isSome=lam2 (fun x=>(f x).isSome) r:=by
 match r with
 | []=>rfl
 | [_]=>rfl
 | [n,e]=>exact nU f n e
 | _::_::_::_=>rfl
theorem sW(f:A9->Option PF)(r:List A9):(J8 f r).isSome=let2 (fun x=>(f x).isSome) r:=by
 match r with
 | []=>rfl
 | [_]=>rfl
 | [n,e]=>exact vX f n e
 | _::_::_::_=>rfl
theorem wD(f:A9->Option PF)(t:A9)(h:Q7)(r:List A9):(IN f t h r).isSome=KS (fun x=>(f x).isSome) h r:=by
 unfold IN KS;have i:=II f r;by_cases a:h=CB
 ·rw [if_pos a,if_pos a,gL];simp
 rw [if_neg a,if_neg a];by_cases b:h=VN
 ·rw [if_pos b,if_pos b,gL,Option.isSome_map,i]
 rw [if_neg b,if_neg b];by_cases c:h=FX
 ·rw [if_pos c,if_pos c,gL,Option.isSome_map,i]
 rw [if_neg c,if_neg c];by_cases d:h=LR
 ·rw [if_pos d,if_pos d];exact JZ _ f r
 rw [if_neg d,if_neg d];by_cases e:h=C3
 ·rw [if_pos e,if_pos e];exact sX f r
 rw [if_neg e,if_neg e];by_cases g:h=K2
 ·rw [if_pos g,if_pos g];exact sW f r
 rw [if_neg g,if_neg g];rfl
theorem sV(f:A9->Option PF)(a:List A9):(N4 f a).isSome=F7 (fun x=>(f x).isSome) a:=by
 cases a with
 | nil=>rfl
 | cons k r =>
  unfold N4 F7;dsimp only
  cases BJ (k::r) with
  | some h=>exact wD f _ h r
  | none =>dsimp only;rw [Option.isSome_map,II];simp
theorem DJ:∀(n:Nat)(t:A9),(AD n t).isSome=C4 n t
 | 0,_=>rfl
 | n+1,t=>by
  have b:(fun x=>(AD n x).isSome)=C4 n:=funext (DJ n)
  cases t with
  | lit x =>
   cases x with
   | string s =>
    show(if EE s=true then none else some (BN .name s .nil [] [])).isSome=!EE s
    cases EE s<;>rfl
   | _=>rfl
  | agg a =>show(N4 (AD n) a).isSome=F7 (C4 n) a;rw [sV,b]
  | _=>rfl
end Pl
namespace Pl
def AL(f:Nat->A9->PV×List (PV×PV))(b:Nat):List A9->PV×List (PV×PV)
 | []=>(.empty,[])
 | x::r=>((.pair (b+(AL f b r).2.length+(f (b+(AL f b r).2.length) x).2.length)),(AL f b r).2++(f (b+(AL f b r).2.length) x).2++[((f (b+(AL f b r).2.length) x).1,(AL f b r).1)])
def made:Nat->Nat->A9->PV×List (PV×PV)
 | 0,_,_=>(.nothing,[])
 | n+1,b,t=>match t with
  | .lit (.int _ m)=>(.num m,[])
  | .lit (.bool x)=>(.AT x,[])
  | .lit (.string s)=>(.name s,[])
  | .agg ts=>AL (made n) b ts
  | _=>(.nothing,[])
end Pl
def cL:Nat->Pl.A9->Prop
 | 0,_=>True
 | n+1,t=>match t with
  | .lit (.int _ m)=>gW m
  | .lit (.string s)=>s.length<=300
  | .agg ts=>∀x∈ts,cL n x
  | _=>True
namespace Pl
def quoted:A9->A9
 | .agg (_::d::_)=>d
 | t=>t
mutual
def settle:PF->Nat->PF×List (PV×PV)
 | .mk k nm d v ks ns,b =>
  if k=.const then(.mk k nm d (made 1000 b (quoted d)).1 ks ns,(made 1000 b (quoted d)).2)
  else(.mk k nm d v (AK ks b).1 ns,(AK ks b).2)
def AK:List PF->Nat->List PF×List (PV×PV)
 | [],_=>([],[])
 | x::r,b=>((settle x b).1::(AK r (b+(settle x b).2.length)).1,(settle x b).2++(AK r (b+(settle x b).2.length)).2)
end
theorem CI(nm:AE)(d:A9)(v:PV)(a:List PF)(ns:List AE)(b:Nat):settle (.mk .const nm d v a ns) b=(.mk .const nm d (made 1000 b (quoted d)).1 a ns,(made 1000 b (quoted d)).2):=by simp [settle]
theorem BC(k:FK)(nm:AE)(d:A9)(v:PV)(a:List PF)(ns:List AE)(b:Nat)(h:k≠.const):settle (.mk k nm d v a ns) b=(.mk k nm d v (AK a b).1 ns,(AK a b).2):=by simp [settle,h]
theorem BV(b:Nat):AK [] b=([],[]):=by simp [AK]
theorem BO(x:PF)(r:List PF)(b:Nat):AK (x::r) b=((settle x b).1::(AK r (b+(settle x b).2.length)).1,(settle x b).2++(AK r (b+(settle x b).2.length)).2):=by simp [AK]
theorem G9:∀(l:List PF)(b:Nat),(AK l b).1.length=l.length
 | [],_=>by simp [AK]
 | x::r,b=>by simp [AK,G9 r]
def BQ(bs:AE):Option PF:=match BX bs with
 | none=>none
 | some l=>match pd l.length l with
  | none=>none
  | some p=>BZ (l.length-1) p.t
structure PO where
 code:Nat
 out:AE
 val:AE
 deriving DecidableEq
def told(r:SR):PO:=⟨r.e,r.W.out,if r.e=0 then cut (text r.W.pairs r.S.val) else []⟩
def AR(W:PW)(f:PF):PW:={W with out:=[],pairs:=W.pairs++(settle f W.pairs.length).2}
def AV(W:PW)(f:PF):PS:=⟨some (settle f W.pairs.length).1,[],.nothing,[]⟩
def over(n:Int):Bool:=decide (n<0)||decide (1000000<n)
def answer(W:PW)(i:AE×Int):PW×PO :=
 if over i.2 then(W,⟨6,[],[]⟩)
 else if check i.1≠0 then(W,⟨check i.1,[],[]⟩)
 else match BQ i.1 with
  | none=>(W,⟨5,[],[]⟩)
  | some f=>((A8 i.2.toNat (AR W f) (AV W f)).W,told (A8 i.2.toNat (AR W f) (AV W f)))
end Pl
end
open Pl (AU)
section
open Go.RowKit
variable {M M':Q5} {w w':World} {v:Value} {i:Nat} {p:PV} {f:PF}
def B9:TypeId:=113
def E0:TypeId:=274
def D8:TypeId:=101
def B6:TypeId:=196
structure Sg where
 tq:TypeId
 tc:TypeId
 pb:List Nat
 qb:List Nat
 cb:List Nat
 lp:List (Option (Nat×Nat))
 ns:List AE
structure Sg.Le(s t:Sg):Prop where
 tq:t.tq=s.tq
 tc:t.tc=s.tc
 pb:s.pb <+: t.pb
 qb:s.qb <+: t.qb
 cb:s.cb <+: t.cb
 lp:s.lp <+: t.lp
 ns:s.ns <+: t.ns
theorem Sg.Le.refl(s:Sg):Sg.Le s s:=⟨rfl,rfl,List.prefix_refl _,List.prefix_refl _,List.prefix_refl _,List.prefix_refl _,List.prefix_refl _⟩
theorem Sg.Le.trans{a b c:Sg}(h:Sg.Le a b)(k:Sg.Le b c):Sg.Le a c:=⟨k.tq.trans h.tq,k.tc.trans h.tc,h.pb.trans k.pb,h.qb.trans k.qb,h.cb.trans k.cb,h.lp.trans k.lp,h.ns.trans k.ns⟩
theorem bS{α:Type}{a b:List α}(h:a <+: b){x:α}(hi:a[i]?=some x):b[i]?=some x:=by obtain⟨t,rfl⟩:=h;rw [List.getElem?_append_left (s_ hi).1];exact hi
inductive RV (s:Sg):Value->PV->Prop
 | num (n:Int):RV s (.iface 237 (.int .i64 n)) (.num n)
 | AT (b:Bool):RV s (.iface 239 (.bool b)) (.AT b)
 | name (t:AE):RV s (.iface 240 (.string ⟨t.toArray⟩)) (.name t)
 | empty:RV s (.iface 271 (.agg #[])) .empty
 | nothing:RV s (.iface 242 (.agg #[])) .nothing
 | pair (i b:Nat) (h:s.pb[i]?=some b):RV s (.iface 272 (.pointer (some ⟨b,0,none⟩))) (.pair i)
 | proc (i b:Nat) (h:s.qb[i]?=some b) (hz:b≠0):RV s (.iface s.tq (.pointer (some ⟨b,0,none⟩))) (.proc i)
 | cont (i b:Nat) (h:s.cb[i]?=some b):RV s (.iface s.tc (.pointer (some ⟨b,0,none⟩))) (.cont i)
 | AZ (k:Nat) (t:AE) (h:AO[k]?=some t) (hk:k<12):RV s (.iface 149 (.int .i64 (k:Int))) (.AZ t)
 | EC:RV s (.iface 146 (.agg #[])) (.AZ AU)
theorem RV.le{s t:Sg}(l:Sg.Le s t)(h:RV s v p):RV t v p:=by
 cases h with
 | num n=>exact .num n
 | AT b=>exact .AT b
 | name t=>exact .name t
 | empty=>exact .empty
 | nothing=>exact .nothing
 | pair i b h=>exact .pair i b (bS l.pb h)
 | proc i b h a=>rw [<- l.tq];exact .proc i b (bS l.qb h) a
 | cont i b h=>rw [<- l.tc];exact .cont i b (bS l.cb h)
 | AZ k t h c=>exact .AZ k t h c
 | EC=>exact .EC
theorem RV.iface{s:Sg}(h:RV s v p):∃T x,v=.iface T x:=by cases h<;>exact⟨_,_,rfl⟩
theorem RV.QL{s:Sg}(h:RV s v p):v.oneCell'=true:=by cases h<;>rfl
theorem p5{α:Type}{l:List α}{x y:α}(h:(l++[x])[i]?=some y):l[i]?=some y\/(i=l.length/\y=x):=by
 exact zC3
def BY{α β:Type}(R:α->β->Prop)(us:List α)(l:List β):Prop:=us.length=l.length/\∀(i:Nat)(u:α)(x:β),us[i]?=some u->l[i]?=some x->R u x
theorem BY.mono{α β:Type}{R Q:α->β->Prop}{us:List α}{l:List β}(h:BY R us l)(a:∀u x,R u x->Q u x):BY Q us l:=⟨h.1,fun i u x b c=>a u x (h.2 i u x b c)⟩
theorem BY.nil{α β:Type}(R:α->β->Prop):BY R [] []:=⟨rfl,fun i u x h=>by simp at h⟩
theorem BY.snoc{α β:Type}{R:α->β->Prop}{us:List α}{l:List β}(h:BY R us l){u:α}{x:β}(g:R u x):BY R (us++[u]) (l++[x]):=by
 refine⟨by simp [h.1],fun i a b c d=>?_⟩;by_cases e:i<us.length
 ·rw [List.getElem?_append_left e] at c;rw [List.getElem?_append_left (by rw [<- h.1];exact e)] at d;exact h.2 i a b c d
 ·rw [List.getElem?_append_right x8] at c;rw [List.getElem?_append_right (by rw [<- h.1];omega)] at d;have j:=(s_ c).1;have f:i-us.length=0:=by simp at j;omega
  rw [f] at c;rw [<- h.1,f] at d;simp at c d;subst c d;exact g
theorem BY.cons{α β:Type}{R:α->β->Prop}{us:List α}{l:List β}(h:BY R us l){u:α}{x:β}(e:R u x):BY R (u::us) (x::l):=by
 refine⟨by simp [h.1],fun i a b c d=>?_⟩
 cases i with
 | zero=>simp at c d;subst c d;exact e
 | succ i=>simp at c d;exact h.2 i a b c d
theorem BY.drop{α β:Type}{R:α->β->Prop}{us:List α}{l:List β}(h:BY R us l)(k:Nat):BY R (us.drop k) (l.drop k):=⟨by simp [h.1],fun i a b c d=>h.2 (k+i) a b zP8 zR0⟩
theorem BY.at_{α β:Type}{R:α->β->Prop}{us:List α}{l:List β}(h:BY R us l){x:β}(a:l[i]?=some x):∃u,us[i]?=some u/\R u x:=by have b:=(s_ a).1;have:=g_ (l:=us) (i:=i) (by rw [h.1];exact b);exact⟨_,this,h.2 i _ x this a⟩
structure BD(M:Q5)(w:World)(s:Sg)(ps:List (PV×PV)):Prop where
 len:s.pb.length=ps.length
 nodup:s.pb.Nodup
 at_:∀(i b:Nat)(p:PV×PV),s.pb[i]?=some b->ps[i]?=some p->¬M b/\∃x y,w.heap[b]?=some (.cells #[x,y] E0 (0,0))/\RV s x p.1/\RV s y p.2
theorem BD.AQ{s:Sg}{ps:List (PV×PV)}(h:BD M w s ps)(c:Stp M w M' w'):BD M' w' s ps :=
 ⟨h.len,h.nodup,fun i b p d e=>by
  obtain⟨f,x,y,a,g⟩:=h.at_ i b p d e;obtain⟨j,k⟩:=c.block b (aB a) f
  exact⟨k,x,y,j.trans a,g⟩⟩
theorem BD.le{s t:Sg}{ps:List (PV×PV)}(h:BD M w s ps)(l:Sg.Le s t)(hp:t.pb=s.pb):BD M w t ps :=
 ⟨by rw [hp];exact h.len,by rw [hp];exact h.nodup,fun i b p a c=>by
  obtain⟨d,x,y,e,f,g⟩:=h.at_ i b p (by rw [<- hp];exact a) c
  exact⟨d,x,y,e,f.le l,g.le l⟩⟩
def Sg.DD(s:Sg)(b:Nat):Sg:={s with pb:=s.pb++[b]}
theorem Sg.EK(s:Sg)(b:Nat):Sg.Le s (s.DD b):=⟨rfl,rfl,List.prefix_append _ _,List.prefix_refl _,List.prefix_refl _,List.prefix_refl _,List.prefix_refl _⟩
theorem BD.push{s:Sg}{ps:List (PV×PV)}(h:BD M w s ps)(m:∀k,M k->k<w.heap.size){x y:Value}{p:PV×PV}(n:RV s x p.1)(o:RV s y p.2) :BD M (w.alloc (.cells #[x,y] E0)) (s.DD w.heap.size) (ps++[p])/\RV (s.DD w.heap.size) (.iface 272 (Q0 w.heap.size)) (.pair ps.length):=by
 have j:∀(i b:Nat),s.pb[i]?=some b->b<w.heap.size:=by intro i b c;have d:=(s_ c).1;obtain⟨_,x,y,g,_⟩:=h.at_ i b _ c (g_ (by rw [<- h.len];exact d));exact aB g
 refine⟨⟨by simp [Sg.DD,h.len],?_,?_⟩,.pair _ _ ?_⟩
 ·simp only [Sg.DD,List.nodup_append];refine⟨h.nodup,w9,?_⟩;rintro a r b c;rintro rfl;simp at c;subst c;obtain⟨i,d⟩:=List.getElem?_of_mem r;have:=j i _ d;omega
 ·intro i b q c f;rcases Nat.lt_or_ge i ps.length with d | d
  ·rw [List.getElem?_append_left d] at f
   have e:s.pb[i]?=some b:=by
    have:=c;simp only [Sg.DD] at this
    rwa [List.getElem?_append_left (by rw [h.len];exact d)] at this
   obtain⟨t,u,v,g,z,A⟩:=h.at_ i b q e f;exact⟨t,u,v,(Below.heap_alloc w _ b (aB g)).trans g,z.le (s.EK _),A.le (s.EK _)⟩
  ·have B:=(s_ f).1;have l:i=ps.length:=by simp at B;omega
   subst l;simp at f;subst f;have e:b=w.heap.size:=by have:=c;simp only [Sg.DD] at this;rw [<- h.len] at this;simpa using this.symm
   subst e;exact⟨fun C=>by have:=m _ C;omega,x,y,heap_alloc_new w _,n.le (s.EK _),o.le (s.EK _)⟩
 ·simp only [Sg.DD];rw [<- h.len];simp
def isQ:Pl.A9->Bool
 | .agg _=>true
 | _=>false
def gU(s:AE)(k:Nat):List Value:=[.string ⟨s.toArray⟩,Q1 k]
def nmRow(ns:List AE)(ks:List Nat):List Value:=(List.zip ns ks).flatMap fun p=>gU p.1 p.2
structure EI(M:Q5)(w:World)(s:Sg)(sl:Value)(ns:List AE):Prop where
 ex:∃ks:List Nat,BY (fun k t=>s.ns[k]?=some t) ks ns/\Sl M w B6 2 sl ns.length (nmRow ns ks)
 nodup:ns.Nodup
 len:ns.length<=1000
inductive CP (M:Q5) (w:World) (s:Sg):Value->PF->Prop
 | const (x:Value) (q:Bool) (nm:AE) (d:Pl.A9) (v:PV) (ks:List PF) (ns:List AE) (h:RV s x v) (hq:q=isQ d):CP M w s (.iface 205 (.agg #[x,.bool q])) (.mk .const nm d v ks ns)
 | name (k:Nat) (nm:AE) (d:Pl.A9) (v:PV) (ks:List PF) (ns:List AE) (h:s.ns[k]?=some nm):CP M w s (.iface 196 (.agg #[.string ⟨nm.toArray⟩,.int .i64 (k:Int)])) (.mk .name nm d v ks ns)
 | iff (a b c:Value) (x y z:PF) (nm:AE) (d:Pl.A9) (v:PV) (ns:List AE) (h1:CP M w s a x) (h2:CP M w s b y) (h3:CP M w s c z):CP M w s (.iface 261 (.agg #[a,b,c])) (.mk .iff nm d v [x,y,z] ns)
 | begin (sl:Value) (us:List Value) (nm:AE) (d:Pl.A9) (v:PV) (ks:List PF) (ns:List AE) (h1:Sl M w D8 1 sl ks.length us) (h2:us.length=ks.length) (h3:∀(i:Nat)(u:Value)(x:PF),us[i]?=some u->ks[i]?=some x->CP M w s u x) (h4:1<=ks.length) (h5:ks.length<=2000):CP M w s (.iface 263 (.agg #[sl])) (.mk .begin nm d v ks ns)
 | call (sl:Value) (us:List Value) (nm:AE) (d:Pl.A9) (v:PV) (ks:List PF) (ns:List AE) (h1:Sl M w D8 1 sl ks.length us) (h2:us.length=ks.length) (h3:∀(i:Nat)(u:Value)(x:PF),us[i]?=some u->ks[i]?=some x->CP M w s u x) (h4:1<=ks.length) (h5:ks.length<=2000):CP M w s (.iface 270 (.agg #[sl])) (.mk .call nm d v ks ns)
 | set (k:Nat) (a:Value) (x:PF) (nm:AE) (d:Pl.A9) (v:PV) (ns:List AE) (h:s.ns[k]?=some nm) (h1:CP M w s a x):CP M w s (.iface 264 (.agg #[.string ⟨nm.toArray⟩,.int .i64 (k:Int),a])) (.mk .set nm d v [x] ns)
 | define (k:Nat) (a:Value) (x:PF) (nm:AE) (d:Pl.A9) (v:PV) (ns:List AE) (h:s.ns[k]?=some nm) (h1:CP M w s a x):CP M w s (.iface 200 (.agg #[.string ⟨nm.toArray⟩,.int .i64 (k:Int),a])) (.mk .define nm d v [x] ns)
 | lambda (sl a:Value) (x:PF) (nm:AE) (d:Pl.A9) (v:PV) (ns:List AE) (h1:EI M w s sl ns) (h2:CP M w s a x):CP M w s (.iface 269 (.agg #[sl,a])) (.mk .lambda nm d v [x] ns)
theorem EI.go{s t:Sg}{sl:Value}{ns:List AE}(h:EI M w s sl ns)(a:Stp M w M' w')(l:Sg.Le s t):EI M' w' t sl ns:=by obtain⟨⟨b,c,d⟩,e,f⟩:=h;exact⟨⟨b,c.mono (fun k t g=>bS l.ns g),d.AQ a⟩,e,f⟩
theorem CP.go{s t:Sg}(o:Stp M w M' w')(l:Sg.Le s t)(h:CP M w s v f):CP M' w' t v f:=by
 induction h with
 | const x q e d v j g h B=>exact .const x q e d v j g (h.le l) B
 | name k e d v j g h=>exact .name k e d v j g (bS l.ns h)
 | iff a b c x y z e d v g _ _ _ C D E=>exact .iff a b c x y z e d v g C D E
 | begin m p e d v j g n r _ u A i=>exact .begin m p e d v j g (n.AQ o) r i u A
 | call m p e d v j g n r _ u A i=>exact .call m p e d v j g (n.AQ o) r i u A
 | set k a x e d v g h _ i=>exact .set k a x e d v g (bS l.ns h) i
 | define k a x e d v g h _ i=>exact .define k a x e d v g (bS l.ns h) i
 | lambda m a x e d v g n _ i=>exact .lambda m a x e d v g (n.go o l) i
theorem Sl.weaken{T:TypeId}{sz:Nat}{n:Nat}{xs:List Value}(d:∀k,M' k->M k)(h:Sl M w T sz v n xs):Sl M' w T sz v n xs:=by obtain⟨f,i,a,e,j,l⟩:=h;refine⟨f,i,a,e,j,l.imp id ?_⟩;rintro⟨g,b,c,rfl,m,r⟩;exact⟨g,b,c,rfl,fun x=>m (d g x),r⟩
theorem EI.weaken{s:Sg}{sl:Value}{ns:List AE}(a:∀k,M' k->M k)(h:EI M w s sl ns):EI M' w s sl ns:=by obtain⟨⟨b,c,d⟩,e,f⟩:=h;exact⟨⟨b,c,d.weaken a⟩,e,f⟩
theorem CP.weaken{s:Sg}(n:∀k,M' k->M k)(h:CP M w s v f):CP M' w s v f:=by
 induction h with
 | const x q e d v j g h u=>exact .const x q e d v j g h u
 | name k e d v j g h=>exact .name k e d v j g h
 | iff a b c x y z e d v g _ _ _ A B C=>exact .iff a b c x y z e d v g A B C
 | begin l o e d v j g m p _ r t i=>exact .begin l o e d v j g (m.weaken n) p i r t
 | call l o e d v j g m p _ r t i=>exact .call l o e d v j g (m.weaken n) p i r t
 | set k a x e d v g h _ i=>exact .set k a x e d v g h i
 | define k a x e d v g h _ i=>exact .define k a x e d v g h i
 | lambda l a x e d v g m _ i=>exact .lambda l a x e d v g (m.weaken n) i
theorem BD.weaken{s:Sg}{ps:List (PV×PV)}(d:∀k,M' k->M k)(h:BD M w s ps):BD M' w s ps :=⟨h.len,h.nodup,fun i b p a c=>⟨fun x=>(h.at_ i b p a c).1 (d b x),(h.at_ i b p a c).2⟩⟩
theorem CP.iface{s:Sg}(h:CP M w s v f):∃T x,v=.iface T x:=by cases h<;>exact⟨_,_,rfl⟩
end
section
variable {b:Nat} {fs:List PF}
namespace Pl
abbrev FR:=Option (PF×List (PV×PV))
def EF(o:Option PF)(b:Nat):FR:=o.map fun f=>settle f b
def GG:List (Nat->FR)->Nat->Option (List PF×List (PV×PV))
 | [],_=>some ([],[])
 | F::r,b=>(F b).bind fun p=>(GG r (b+p.2.length)).map fun q=>(p.1::q.1,p.2++q.2)
theorem KP(f:A9->Option PF):∀(a:List A9)(b:Nat),GG (a.map fun t=>EF (f t)) b=(B1 f a).map fun l=>AK l b
 | [],b=>by simp [GG,B1,BV]
 | t::r,b=>by
  simp only [List.map_cons,GG,B1]
  cases h:f t with
  | none=>simp [EF]
  | some x =>
   simp only [EF,Option.map_some,Option.bind_some];rw [KP f r]
   cases B1 f r with
   | none=>rfl
   | some l=>simp [BO]
def Left(Fs:List (Nat->FR))(b:Nat)(k:Nat)(fs:List PF)(new:List (PV×PV)):Prop :=GG Fs b=(GG (Fs.drop k) (b+new.length)).map fun q=>(fs++q.1,new++q.2)
theorem Left.start(a:List (Nat->FR))(b:Nat):Left a b 0 [] []:=by unfold Left;simp
theorem Left.more{c:List (Nat->FR)}{k:Nat}{a:List (PV×PV)}(h:Left c b k fs a){F:Nat->FR}{p:PF×List (PV×PV)}(d:c[k]?=some F)(hp:F (b+a.length)=some p):Left c b (k+1) (fs++[p.1]) (a++p.2):=by
 unfold Left at h ⊢;rw [h];obtain⟨e,rfl⟩:=s_ d;rw [List.drop_eq_getElem_cons e];simp only [GG,hp,Option.bind_some,Option.map_map];rw [a_,Nat.add_assoc]
 congr 1
 funext q
 simp
theorem Left.none_{c:List (Nat->FR)}{k:Nat}{a:List (PV×PV)}(h:Left c b k fs a){F:Nat->FR}(d:c[k]?=some F)(hp:F (b+a.length)=none):GG c b=none:=by unfold Left at h;rw [h];obtain⟨e,rfl⟩:=s_ d;rw [List.drop_eq_getElem_cons e];simp [GG,hp]
theorem Left.done{c:List (Nat->FR)}{a:List (PV×PV)}(h:Left c b c.length fs a):GG c b=some (fs,a):=by unfold Left at h;rw [h,List.drop_length];simp [GG]
def BB:Nat->A9->Nat
 | 0,_=>0
 | n+1,t=>match t with
  | .agg ts=>(ts.map (BB n)).sum
  | _=>1
theorem F4(l:List Nat):∀(k:Nat)(x:Nat),l[k]?=some x->(l.take (k+1)).sum=(l.take k).sum+x:=by intro k x h;rw [List.take_add_one,h];simp
theorem DH(l:List Nat)(k:Nat):(l.take k).sum<=l.sum:=by
 conv=>rhs;rw [<- List.take_append_drop k l]
 rw [List.sum_append];omega
structure PdOk(n:Nat)(l:List Tok)(p:PR):Prop where
 words:BB n p.t+p.q.length<=l.length
 CG:p.gr=false->(∀t∈l,t.length<=300)->cL n p.t
theorem pls_ok(n:Nat)(j:∀l p,pd n l=some p->PdOk n l p):∀(k:Nat)(l:List Tok)(p:PL),IG (pd n) k l=some p->((p.ts.map (BB n)).sum+p.q.length+1<=l.length/\(p.gr=false->(∀t∈l,t.length<=300)->∀x∈p.ts,cL n x)):=by
 intro k
 induction k with
 | zero=>intro l p h;simp [IG] at h
 | succ k b =>
  intro l p h
  cases l with
  | nil=>simp [IG] at h
  | cons t r =>
   rw [I9] at h;split at h
   ·obtain rfl:=i_ h;simp
   ·cases a:pd n (t::r) with
    | none=>rw [a] at h;simp at h
    | some m =>
     rw [a] at h;dsimp only at h;have f:=j _ _ a
     cases c:IG (pd n) k m.q with
     | none=>rw [c] at h;simp at h
     | some q =>
      rw [c] at h;have g:=b _ _ c;simp only [Option.map_some,o_] at h;subst h;refine⟨?_,?_⟩
      ·have:=f.words;have:=g.1;simp only [List.map_cons,List.sum_cons];omega
      ·intro d i x e;simp only [Bool.or_eq_false_iff] at d;rcases List.mem_cons.1 e with rfl | e
       ·exact f.CG d.1 i
       ·exact g.2 d.2 (fun y o=>i y ((DA _ _ _ a).1.mem o)) x e
theorem wJ{t:Tok}(h:ER t=false):gW (F3 t):=by
 unfold ER at h;have h:F5 (EY t)<=CG:=by simpa using h
 unfold gW F3;split<;>omega
theorem NP:∀(n:Nat)(l:List Tok)(p:PR),pd n l=some p->PdOk n l p
 | 0,_,_,h=>by simp [pd] at h
 | n+1,[],_,h=>by simp [pd] at h
 | n+1,t::r,p,h=>by
  unfold pd at h;split at h
  ·simp at h
  split at h
  ·obtain rfl:=i_ h;exact⟨zQ2,fun _ _=>trivial⟩
  split at h
  ·obtain rfl:=i_ h;exact⟨zQ2,fun _ _=>trivial⟩
  split at h
  ·simp only [Option.map_eq_some_iff] at h;obtain⟨d,a,rfl⟩:=h;have o:=NP n r d a;have g:=o.words
   cases n with
   | zero=>simp [pd] at a
   | succ m =>
    refine⟨?_,fun b c x e=>?_⟩
    ·simp only [BB,List.map_cons,List.map_nil,List.sum_cons,List.sum_nil,c_] at g ⊢;omega
    ·rcases List.mem_cons.1 e with rfl | e
     ·show CB.length<=300;decide
     ·obtain rfl:x=d.t:=by simpa using e
      exact o.CG b (fun y f=>c y (List.mem_cons_of_mem _ f))
  split at h
  ·simp only [Option.map_eq_some_iff] at h;obtain⟨d,a,rfl⟩:=h;have o:=pls_ok n (NP n) _ _ _ a;exact⟨by have:=o.1;simp only [BB,c_];omega,fun b c=>o.2 b (fun y f=>c y (List.mem_cons_of_mem _ f))⟩
  ·simp only [Option.map_eq_some_iff] at h;obtain⟨d,a,rfl⟩:=h;unfold pw at a;split at a
   ·obtain rfl:=i_ a;exact⟨zQ2,fun b _=>wJ b⟩
   ·split at a
    ·obtain rfl:=i_ a;exact⟨zQ2,fun _ c=>c t w9⟩
    ·simp at a
end Pl
end
section
open Go.RowKit
variable {w w3 w2 w':World} {wb n sz k b:Nat} {W:PW} {lv pv qv cv gv v:Value} {qs cs xs l:List Value} {T Tr:TypeId} {M:Q5} {cw:Array Value}
def fW:Option Nat->Int
 | some k=>k
 | none=>-1
theorem d6(k:Nat):fW (some k)=k:=rfl
theorem aX{α:Type}(f:α->List Value)(b:Nat)(c:∀a,(f a).length=b)(l:List α)(i j:Nat)(a:α)(hi:l[i]?=some a)(e:j<b):(l.flatMap f)[i*b+j]?=(f a)[j]? := by
 induction l generalizing i with
 | nil=>simp at hi
 | cons x l d =>
  simp only [List.flatMap_cons]
  cases i with
  | zero =>simp only [List.getElem?_cons_zero,o_] at hi;subst hi;rw [List.getElem?_append_left (by rw [c];omega)];simp
  | succ i =>rw [List.getElem?_append_right (by rw [c,Nat.add_mul];omega),c];rw [show(i+1)*b+j-b=i*b+j from by rw [Nat.add_mul];omega];exact d i (by simpa using hi)
theorem Sl.cell{b:Option Addr}{cap:Nat}(h:Sl M w T sz (.slice b n cap) n xs)(p:0<n):∃g a,b=some ⟨g,a,none⟩/\g<w.heap.size/\¬M g/\∀(i:Nat)(u:Value),xs[i]?=some u->w.cell? ⟨g,a+i,none⟩=some u:=by
 obtain⟨_,j,c,e,_,d⟩:=h;simp only [Value.slice.injEq,true_and] at e;obtain⟨rfl,rfl⟩:=e;rcases d with d | ⟨g,a,k,rfl,l,f,m⟩
 ·omega
 ·exact⟨g,a,rfl,aB f,l,fun i u o=>(aA f _).trans (m i u o)⟩
theorem Sl.shape(h:Sl M w T sz v n xs):∃b a,v=.slice b n a/\n<=a:=by obtain⟨_,b,a,e,c,_⟩:=h;exact⟨b,a,e,c⟩
theorem gT(h:w.ownsRow 0 T sz v n xs):Sl (fun _=>False) w T sz v n xs:=by
 refine⟨h.1,?_⟩;rcases h.2 with⟨rfl,rfl⟩ | ⟨g,b,c,rfl,_,d,e,_,j,f⟩
 ·exact⟨none,0,rfl,n_,.inl rfl⟩
 ·refine⟨some ⟨g,0,none⟩,b,rfl,e,.inr ⟨g,0,c,rfl,id,d,fun i u a=>?_⟩⟩;rw [Nat.zero_add];rw [<- f,List.getElem?_take] at a;split at a
  ·simpa using a
  ·simp at a
theorem aAI(env:Env)(i:Nat)(b:AE×Nat)(h:env[i]?=some b):(env.flatMap iM)[i*2]?=some (AM b.1)/\(env.flatMap iM)[i*2+1]?=some (Q1 b.2) :=⟨aX iM 2 (fun _=>rfl) env i 0 b h w8,aX iM 2 (fun _=>rfl) env i 1 b h w8⟩
theorem aAG(env:Env)(s:AE)(i:Nat)(b:AE×Nat)(h:env[i]?=some b)(a:Pl.find (env.drop (i+1)) s=none)(c:b.1=s):Pl.find env s=some b.2:=by
 have d:env=env.take i++(b::env.drop (i+1)):=by have f:=(s_ h).1;have e:=(s_ h).2;rw [<- e,List.getElem_cons_drop,List.take_append_drop]
 rw [d,Pl.FJ];simp [Pl.find,a,c]
theorem wN(env:Env)(s:AE)(i:Nat)(b:AE×Nat)(h:env[i]?=some b)(a:Pl.find (env.drop (i+1)) s=none)(c:¬b.1=s):Pl.find (env.drop i) s=none:=by have d:=(s_ h).1;have e:=(s_ h).2;rw [<- List.getElem_cons_drop d,e];simp [Pl.find,a,c]
theorem lM(M:Q5)(w:World)(v:Value)(env:Env)(s:AE)(h:DF M w v env)(A:env.length<=4611686018427387904) :Q2 34 #[v,.string ⟨s.toArray⟩] w fun e r=>e=.returned (Q1 (fW (Pl.find env s)))/\w=r:=by
 obtain⟨B,t,rfl,q⟩:=h.shape;have H:=h_ h;clear h;go_enter func34,ntmps34;go_wp2_with fail
 go_loopw [5] (fun i wr=>∃k:Nat,k<=env.length/\i=.int .i64 ((k:Int)-1)/\wr=w/\Hid (Pl.find (env.drop k) s=none)) (fun i _=>(intOf i+1).toNat)
 case atStart=>exact⟨env.length,n_,k7,rfl,by simp [Hid,Pl.find]⟩
 case round =>
  obtain⟨k,C,rfl,rfl,j⟩:=hrel;by_cases l:k=0
  ·subst l;have c:Hid (Pl.find env s=none):=show Pl.find env s=none from by simpa using j.out
   go_wp2_with fail
   go_ret;exact⟨by rw [c.out];rfl,rfl⟩
  ·obtain⟨i,rfl⟩:∃i,k=i+1:=⟨k-1,x8⟩
   obtain⟨b,d⟩:∃b,env[i]?=some b:=⟨env[i]' x8,g_ x8⟩
   obtain⟨g,u,rfl,D,_,f⟩:=Sl.cell H x8;obtain⟨m,n⟩:=aAI env i b d;have x:=f _ _ m;have y:=f _ _ n;rw [<- Nat.add_assoc] at y;unfold AM at x;have o:((i+1:Nat):Int)-1=(i:Int):=by omega
   rw [o];have z:(i:Int)<(env.length:Int):=by omega
   by_cases a:b.1=s
   ·have c:=h_ (aAG env s i b d j a);have p:(b.1==s)=true:=by simpa using a
    clear d f m n a;exact zC4
   ·have c:=h_ (wN env s i b d j a);have p:(b.1==s)=false:=by simpa using a
    clear d f m n a;go_wp2_with fail;exact⟨⟨i,x8,k7,trivial,c⟩,zL5⟩
def CQ(wb:Nat)(l:List Value)(k:Nat):Prop:=k=wb\/∃v∈l,Value.ownBlock v=some k
structure EV(w:World)(wb:Nat)(W:PW)(pv qv cv lv gv:Value)(qs cs:List Value):Prop where
 blk:w.heap[wb]?=some (.cells #[pv,qv,cv,lv,gv,AM W.out] MG (0,0))
 pr:w.ownsRow 0 VR 6 pv W.pairs.length (W.pairs.flatMap mG)
 pc:w.ownsRow 0 VQ 2 qv W.procs.length qs
 pcs:∀(i:Nat)(p:PF×Env),W.procs[i]?=some p->∃fv ev,qs[i*2]?=some fv/\qs[i*2+1]?=some ev/\RF w fv p.1/\p.1.k=.lambda/\DF (CQ wb [pv,qv,cv,lv,gv]) w ev p.2
 cn:w.ownsRow 0 RX 1 cv W.AG.length cs
 cns:∀(i:Nat)(fs:List CW),W.AG[i]?=some fs->∃u,cs[i]?=some u/\DT (CQ wb [pv,qv,cv,lv,gv]) w u fs
 pl:w.ownsRow 0 TV 3 lv W.places.length (W.places.flatMap cZ)
 gl:w.ownsRow 0 TB 2 gv W.globals.length (W.globals.flatMap iM)
 out:W.out.length<=1000
def RW(w:World)(wb:Nat)(M:Q5)(W:PW):Prop:=∃pv qv cv lv gv qs cs,M=CQ wb [pv,qv,cv,lv,gv]/\EV w wb W pv qv cv lv gv qs cs
theorem aN(h:w.ownsRow b T sz v n xs):∀k,v.ownBlock=some k->∃a,w.heap[k]?=some (.cells a T (0,0)):=by
 intro k c;rcases h.2 with⟨rfl,_⟩ | ⟨g,d,a,rfl,_,e,_⟩
 ·simp [Value.ownBlock] at c
 ·simp only [Value.ownBlock,o_] at c;subst c;exact⟨a,e⟩
theorem aK{c1 c2:Array Value}{T1 T2:TypeId}(b:w.heap[k]?=some (.cells c1 T1 (0,0)))(a:w.heap[k]?=some (.cells c2 T2 (0,0))):c1=c2/\T1=T2:=by rw [b] at a;simp only [o_,Obj.cells.injEq,and_true] at a;exact a
theorem EV.X5(h:EV w wb W pv qv cv lv gv qs cs):Mty (CQ wb [pv,qv,cv,lv,gv]) w:=by
 intro k g e i b j
 have l:e=MG\/e=VR\/e=VQ\/e=RX\/e=TV\/e=TB:=by
  exact zC2
 revert j
 rcases l with rfl | rfl | rfl | rfl | rfl | rfl<;>(unfold RH;decide)
theorem RW.X5(h:RW w wb M W):Mty M w:=by obtain⟨a,b,c,d,e,f,g,rfl,h⟩:=h;exact h.X5
theorem RW.notM(h:RW w wb M W){cur:Array Value}{e:TypeId}(b:w.heap[k]?=some (.cells cur e (0,0)))(g:¬(e=MG\/e=VR\/e=VQ\/e=RX\/e=TV\/e=TB)):¬M k:=by
 obtain⟨j,l,m,n,o,p,q,rfl,h⟩:=h;intro i;apply g;exact zC2
theorem RW.lt(h:RW w wb M W)(c:M k):k<w.heap.size:=by
 obtain⟨d,e,f,g,i,j,l,rfl,h⟩:=h;rcases c with rfl | ⟨v,b,a⟩
 ·exact aB h.blk
 ·simp only [List.mem_cons,List.not_mem_nil,or_false] at b;rcases b with rfl | rfl | rfl | rfl | rfl
  ·exact(h.pr.lt k a).2
  ·exact(h.pc.lt k a).2
  ·exact(h.cn.lt k a).2
  ·exact(h.pl.lt k a).2
  ·exact(h.gl.lt k a).2
structure Chg(w w':World)(wb:Nat)(row:Option Nat):Prop where
 os:w'.os=w.os
 tape:w'.tape=w.tape
 output:w'.output=w.output
 size:w.heap.size<=w'.heap.size
 block:∀k,k<w.heap.size->k≠wb->some k≠row->w'.heap[k]?=w.heap[k]?
theorem aL{row:Option Nat}(h:w.ownsRow 0 T sz v n xs)(i:Chg w w' wb row)(l:w.heap[wb]?=some (.cells cw MG (0,0)))
  (b:∀k,row=some k->∃a,w.heap[k]?=some (.cells a Tr (0,0))) (m:T≠MG) (o:T≠Tr):w'.ownsRow 0 T sz v n xs:=by
 refine⟨h.1,?_⟩;rcases h.2 with p | ⟨g,j,a,rfl,q,f,d⟩
 ·exact .inl p
 ·refine .inr ⟨g,j,a,rfl,q,?_,d⟩;rw [i.block g (aB f) ?_ ?_]
  ·exact f
  ·rintro rfl;exact m (aK f l).2
  ·intro e;obtain⟨c,i⟩:=b g e.symm;exact o (aK f i).2
theorem Chg.AQ{row:Option Nat}{l':List Value}(a:Chg w w' wb row)(b:∀k,row=some k->CQ wb l k)(f:∀k,k<w.heap.size->CQ wb l' k->CQ wb l k):Stp (CQ wb l) w (CQ wb l') w' :=⟨a.os,a.tape,a.output,a.size,fun k d c=>⟨a.block k d (fun e=>c (.inl e)) (fun e=>c (b k e.symm)),fun h=>c (f k d h)⟩⟩
theorem EV.upd{W':PW}{pv' qv' cv' lv' gv':Value}{qs' cs':List Value}(h:EV w wb W pv qv cv lv gv qs cs)
  (k:Stp (CQ wb [pv,qv,cv,lv,gv]) w (CQ wb [pv',qv',cv',lv',gv']) w')
  (o:w'.heap[wb]?=some (.cells #[pv',qv',cv',lv',gv',AM W'.out] MG (0,0)))
  (q:w'.ownsRow 0 VR 6 pv' W'.pairs.length (W'.pairs.flatMap mG)) (r:w'.ownsRow 0 VQ 2 qv' W'.procs.length qs') (s:w'.ownsRow 0 RX 1 cv' W'.AG.length cs')
  (t:w'.ownsRow 0 TV 3 lv' W'.places.length (W'.places.flatMap cZ)) (v:w'.ownsRow 0 TB 2 gv' W'.globals.length (W'.globals.flatMap iM)) (x:W'.out.length<=1000)
  (hp:∀(i:Nat)(p:PF×Env),W'.procs[i]?=some p->(W.procs[i]?=some p/\qs'[i*2]?=qs[i*2]? /\ qs'[i*2+1]?=qs[i*2+1]?)\/∃g j,qs'[i*2]?=some g/\qs'[i*2+1]?=some j/\RF w' g p.1/\p.1.k=.lambda/\DF (CQ wb [pv',qv',cv',lv',gv']) w' j p.2)
  (y:∀(i:Nat)(f:List CW),W'.AG[i]?=some f->(W.AG[i]?=some f/\cs'[i]?=cs[i]?)\/∃u,cs'[i]?=some u/\DT (CQ wb [pv',qv',cv',lv',gv']) w' u f):EV w' wb W' pv' qv' cv' lv' gv' qs' cs':=by
 refine⟨o,q,r,?_,s,?_,t,v,x⟩
 ·intro i p l;rcases hp i p l with⟨m,n,z⟩ | h
  ·obtain⟨g,j,a,b,c,d,e⟩:=h.pcs i p m;exact⟨g,j,n.trans a,z.trans b,c.keep (k.MD h.X5),d,e.AQ k⟩
  ·exact h
 ·intro i f l;rcases y i f l with⟨m,n⟩ | h
  ·obtain⟨u,a,b⟩:=h.cns i f m;exact⟨u,n.trans a,DT.AQ k h.X5 _ _ b⟩
  ·exact h
theorem EV.later(h:EV w wb W pv qv cv lv gv qs cs)(l:∀k,k<w.heap.size->w'.heap[k]?=w.heap[k]?)(o:Stp (CQ wb [pv,qv,cv,lv,gv]) w (CQ wb [pv,qv,cv,lv,gv]) w'):EV w' wb W pv qv cv lv gv qs cs:=by
 have a:∀{T:TypeId} {c:Nat} {v:Value} {n:Nat} {d:List Value},w.ownsRow 0 T c v n d->w'.ownsRow 0 T c v n d:=by
  intro T c v n d h;refine⟨h.1,?_⟩;rcases h.2 with q | ⟨g,e,f,rfl,r,m,b⟩
  ·exact .inl q
  ·exact .inr ⟨g,e,f,rfl,r,(l g (aB m)).trans m,b⟩
 exact h.upd o ((l wb (aB h.blk)).trans h.blk) (a h.pr) (a h.pc) (a h.cn) (a h.pl) (a h.gl) h.out (fun i p j=>.inl ⟨j,rfl,rfl⟩) (fun i s j=>.inl ⟨j,rfl⟩)
theorem RW.later(h:RW w wb M W)(a:Q3 w w'):RW w' wb M W:=by obtain⟨b,c,d,e,f,g,i,rfl,h⟩:=h;exact⟨b,c,d,e,f,g,i,rfl,h.later (fun k j=>a.block k j) (Stp.AA a)⟩
theorem fJ{l':List Value}{v':Value}(d:v∈l)(f:∀x∈l',x∈l\/x=v')(a:∀k,v'.ownBlock=some k->v.ownBlock=some k\/w.heap.size<=k):∀k,k<w.heap.size->CQ wb l' k->CQ wb l k:=by
 intro k j g;rcases g with e | ⟨x,h,b⟩
 ·exact .inl e
 ·rcases f x h with i | rfl
  ·exact .inr ⟨x,i,b⟩
  ·rcases a k b with c | c
   ·exact .inr ⟨v,d,c⟩
   ·omega
theorem mJ{row:Option Nat}(b:w.heap[wb]?=some (.cells cw MG (0,0)))(f:Q3 w w2)(g:w2.grownBy w3 row)(h:∀k,row=some k->∃d,w.heap[k]?=some (.cells d Tr (0,0)))(i:Tr≠MG):w3.heap[wb]?=some (.cells cw MG (0,0)):=by have a:=aB b;rw [g.block wb (l_ a f.size) ?_,f.block wb a,b];intro e;obtain⟨c,j⟩:=h wb e.symm;exact i (aK j b).2
theorem dJ{row:Option Nat}(a:Q3 w w2)(b:w2.grownBy w3 row)(o:Nat)(v:Value):Chg w (w3.setCell ⟨wb,o,none⟩ v) wb row :=
 ⟨b.os.trans a.os,b.tape.trans a.tape,b.output.trans a.output,by have:=b.size;have:=a.size;simp [World.setCell];omega,fun k c d f=>by
  rw [Below.heap_setCell _ _ _ _ (fun e=>d a6),b.block k (l_ c a.size) f,a.block k c]⟩
theorem fH(f:w.heap[wb]?=some (.cells cw MG (0,0)))(i:T≠MG)(o:Nat)(u:Value)(h:w.ownsRow 0 T sz v n xs):(w.setCell ⟨wb,o,none⟩ u).ownsRow 0 T sz v n xs:=by
 refine⟨h.1,?_⟩;rcases h.2 with j | ⟨g,b,c,rfl,k,d,a⟩
 ·exact .inl j
 ·refine .inr ⟨g,b,c,rfl,k,?_,a⟩;rw [Below.heap_setCell _ _ _ _ ?_,d];intro e;have e:g=wb:=by simpa using e
  subst e;exact i (aK d f).2
theorem dH{α:Type}{l:List α}{x y:α}{i:Nat}(h:(l++[x])[i]?=some y):l[i]?=some y\/(i=l.length/\y=x):=by
 exact zC3
theorem mB{r:List Value}{i:Nat}(a:l.length=n)(hi:i<n):(l++r)[i]?=l[i]? := List.getElem?_append_left x8
theorem EV.NO(h:EV w wb W pv qv cv lv gv qs cs)(f:Q3 w w2)(g:w2.grownBy w3 (Value.ownBlock lv))(sl:Value)(x:PV)
  (m:w3.ownsRow 0 TV 3 sl (W.places.length+1) (W.places.flatMap cZ++cZ x)) (d:∀k,sl.ownBlock=some k->lv.ownBlock=some k\/w.heap.size<=k) :
  EV (w3.setCell ⟨wb,3,none⟩ sl) wb {W with places:=W.places++[x]} pv qv cv sl gv qs cs/\Stp (CQ wb [pv,qv,cv,lv,gv]) w (CQ wb [pv,qv,cv,sl,gv]) (w3.setCell ⟨wb,3,none⟩ sl):=by
 have a:=aN h.pl;have b:=mJ h.blk f g a w8;have c:=dJ f g (wb:=wb) 3 sl;have j:Stp (CQ wb [pv,qv,cv,lv,gv]) w (CQ wb [pv,qv,cv,sl,gv]) (w3.setCell ⟨wb,3,none⟩ sl) :=c.AQ (fun k n=>.inr ⟨lv,w9,n⟩) (fJ (v:=lv) (v':=sl) w9 k8 d);refine⟨h.upd j zP9 (aL h.pr c h.blk a w8 w8) (aL h.pc c h.blk a w8 w8) (aL h.cn c h.blk a w8 w8) ?_ (aL h.gl c h.blk a w8 w8) h.out (fun i p e=>.inl ⟨e,rfl,rfl⟩) (fun i o e=>.inl ⟨e,rfl⟩),j⟩;have:=fH b w8 3 sl m;simpa using this
theorem EV.MU(h:EV w wb W pv qv cv lv gv qs cs)(f:Q3 w w2)(g:w2.grownBy w3 (Value.ownBlock gv))(sl:Value)(x:AE×Nat)
  (m:w3.ownsRow 0 TB 2 sl (W.globals.length+1) (W.globals.flatMap iM++iM x)) (d:∀k,sl.ownBlock=some k->gv.ownBlock=some k\/w.heap.size<=k) :
  EV (w3.setCell ⟨wb,4,none⟩ sl) wb {W with globals:=W.globals++[x]} pv qv cv lv sl qs cs/\Stp (CQ wb [pv,qv,cv,lv,gv]) w (CQ wb [pv,qv,cv,lv,sl]) (w3.setCell ⟨wb,4,none⟩ sl):=by
 have a:=aN h.gl;have b:=mJ h.blk f g a w8;have c:=dJ f g (wb:=wb) 4 sl;have j:Stp (CQ wb [pv,qv,cv,lv,gv]) w (CQ wb [pv,qv,cv,lv,sl]) (w3.setCell ⟨wb,4,none⟩ sl) :=c.AQ (fun k n=>.inr ⟨gv,w9,n⟩) (fJ (v:=gv) (v':=sl) w9 k8 d);refine⟨h.upd j zP9 (aL h.pr c h.blk a w8 w8) (aL h.pc c h.blk a w8 w8) (aL h.cn c h.blk a w8 w8) (aL h.pl c h.blk a w8 w8) ?_ h.out (fun i p e=>.inl ⟨e,rfl,rfl⟩) (fun i o e=>.inl ⟨e,rfl⟩),j⟩;have:=fH b w8 4 sl m;simpa using this
theorem EV.O4(h:EV w wb W pv qv cv lv gv qs cs)(f:Q3 w w2)(g:w2.grownBy w3 (Value.ownBlock pv))(sl:Value)(x:PV×PV)
  (m:w3.ownsRow 0 VR 6 sl (W.pairs.length+1) (W.pairs.flatMap mG++mG x)) (d:∀k,sl.ownBlock=some k->pv.ownBlock=some k\/w.heap.size<=k) :
  EV (w3.setCell ⟨wb,0,none⟩ sl) wb {W with pairs:=W.pairs++[x]} sl qv cv lv gv qs cs/\Stp (CQ wb [pv,qv,cv,lv,gv]) w (CQ wb [sl,qv,cv,lv,gv]) (w3.setCell ⟨wb,0,none⟩ sl):=by
 have a:=aN h.pr;have b:=mJ h.blk f g a w8;have c:=dJ f g (wb:=wb) 0 sl;have j:Stp (CQ wb [pv,qv,cv,lv,gv]) w (CQ wb [sl,qv,cv,lv,gv]) (w3.setCell ⟨wb,0,none⟩ sl) :=c.AQ (fun k n=>.inr ⟨pv,w9,n⟩) (fJ (v:=pv) (v':=sl) w9 k8 d);refine⟨h.upd j zP9 ?_ (aL h.pc c h.blk a w8 w8) (aL h.cn c h.blk a w8 w8) (aL h.pl c h.blk a w8 w8) (aL h.gl c h.blk a w8 w8) h.out (fun i p e=>.inl ⟨e,rfl,rfl⟩) (fun i o e=>.inl ⟨e,rfl⟩),j⟩;have:=fH b w8 0 sl m;simpa using this
theorem EV.O3(h:EV w wb W pv qv cv lv gv qs cs)(l:Q3 w w2)(m:w2.grownBy w3 (Value.ownBlock qv))(sl d ev:Value)(x:PF×Env)
  (q:w3.ownsRow 0 VQ 2 sl (W.procs.length+1) (qs++[d,ev])) (g:∀k,sl.ownBlock=some k->qv.ownBlock=some k\/w.heap.size<=k)
  (r:RF w d x.1) (s:x.1.k=.lambda) (t:DF (CQ wb [pv,qv,cv,lv,gv]) w ev x.2) :
  EV (w3.setCell ⟨wb,1,none⟩ sl) wb {W with procs:=W.procs++[x]} pv sl cv lv gv (qs++[d,ev]) cs/\Stp (CQ wb [pv,qv,cv,lv,gv]) w (CQ wb [pv,sl,cv,lv,gv]) (w3.setCell ⟨wb,1,none⟩ sl):=by
 have a:=aN h.pc;have b:=mJ h.blk l m a w8;have c:=dJ l m (wb:=wb) 1 sl;have e:qs.length=W.procs.length*2:=h.pc.1;have f:Stp (CQ wb [pv,qv,cv,lv,gv]) w (CQ wb [pv,sl,cv,lv,gv]) (w3.setCell ⟨wb,1,none⟩ sl) :=c.AQ (fun k u=>.inr ⟨qv,w9,u⟩) (fJ (v:=qv) (v':=sl) w9 (by intro x n;simp only [List.mem_cons,List.not_mem_nil,or_false] at n ⊢;rcases n with rfl | rfl | rfl | rfl | rfl<;>simp) g);refine⟨h.upd f zP9 (aL h.pr c h.blk a w8 w8) ?_ (aL h.cn c h.blk a w8 w8) (aL h.pl c h.blk a w8 w8) (aL h.gl c h.blk a w8 w8) h.out (fun i p j=>?_) (fun i y j=>.inl ⟨j,rfl⟩),f⟩
 ·have:=fH b w8 1 sl q;simpa using this
 ·rcases dH j with o | ⟨rfl,rfl⟩
  ·have:=(s_ o).1;exact .inl ⟨o,mB e x8,mB e x8⟩
  ·right;refine⟨d,ev,?_,?_,r.keep (f.MD h.X5),s,t.AQ f⟩
   ·rw [List.getElem?_append_right x8,e];simp
   ·rw [List.getElem?_append_right x8,e];simp [Nat.add_sub_cancel_left]
theorem EV.P1(h:EV w wb W pv qv cv lv gv qs cs)(g:Q3 w w2)(j:w2.grownBy w3 (Value.ownBlock cv))(sl u:Value)(x:List CW)
  (o:w3.ownsRow 0 RX 1 sl (W.AG.length+1) (cs++[u])) (d:∀k,sl.ownBlock=some k->cv.ownBlock=some k\/w.heap.size<=k)
  (q:DT (CQ wb [pv,qv,cv,lv,gv]) w u x) :
  EV (w3.setCell ⟨wb,2,none⟩ sl) wb {W with AG:=W.AG++[x]} pv qv sl lv gv qs (cs++[u])/\Stp (CQ wb [pv,qv,cv,lv,gv]) w (CQ wb [pv,qv,sl,lv,gv]) (w3.setCell ⟨wb,2,none⟩ sl):=by
 have a:=aN h.cn;have b:=mJ h.blk g j a w8;have c:=dJ g j (wb:=wb) 2 sl;have s:cs.length=W.AG.length*1:=h.cn.1;have e:Stp (CQ wb [pv,qv,cv,lv,gv]) w (CQ wb [pv,qv,sl,lv,gv]) (w3.setCell ⟨wb,2,none⟩ sl) :=c.AQ (fun k r=>.inr ⟨cv,w9,r⟩) (fJ (v:=cv) (v':=sl) w9 k8 d);refine⟨h.upd e zP9 (aL h.pr c h.blk a w8 w8) (aL h.pc c h.blk a w8 w8) ?_ (aL h.pl c h.blk a w8 w8) (aL h.gl c h.blk a w8 w8) h.out (fun i p f=>.inl ⟨f,rfl,rfl⟩) (fun i t f=>?_),e⟩
 ·have:=fH b w8 2 sl o;simpa using this
 ·rcases dH f with m | ⟨rfl,rfl⟩
  ·have:=(s_ m).1;exact .inl ⟨m,mB (n:=W.AG.length) x8 x8⟩
  ·right;refine⟨u,?_,DT.AQ e h.X5 _ _ q⟩;rw [List.getElem?_append_right x8];simp [show cs.length=W.AG.length from by omega]
theorem bM{o:Nat}(d:b<w.heap.size):(∀a:Obj,(w.alloc a).cell? ⟨b,o,none⟩=w.cell? ⟨b,o,none⟩)/\(∀a:Obj,(w.alloc a).frozen? ⟨b,o,none⟩=w.frozen? ⟨b,o,none⟩)/\(∀a c:Obj,((w.alloc a).alloc c).cell? ⟨b,o,none⟩=w.cell? ⟨b,o,none⟩)/\(∀a c:Obj,((w.alloc a).alloc c).frozen? ⟨b,o,none⟩=w.frozen? ⟨b,o,none⟩):=by have e:∀a:Obj,Q3 w (w.alloc a):=fun a=>b_;have f:∀a c:Obj,Q3 w ((w.alloc a).alloc c):=fun a c=>(e a).alloc w9 _;exact⟨fun a=>(e a).cell (p:=⟨b,o,none⟩) d,fun a=>(e a).frozen (p:=⟨b,o,none⟩) d,fun a c=>(f a c).cell (p:=⟨b,o,none⟩) d,fun a c=>(f a c).frozen (p:=⟨b,o,none⟩) d⟩
theorem zN(w:World)(o:Obj)(cs:Array Value)(T:TypeId):((w.alloc o).alloc (.cells cs T)).drew.heap[w.heap.size+1]?=some (.cells cs T (0,0)):=by have:=heap_alloc_new (w.alloc o) (.cells cs T);rw [show(w.alloc o).heap.size=w.heap.size+1 from by simp] at this;exact this
theorem TC(w:World)(cs:Array Value)(T:TypeId):(w.alloc (.cells cs T)).drew.heap[w.heap.size]?=some (.cells cs T (0,0)):=heap_alloc_new w _
theorem jV(w:World)(a b:Obj):Q3 w ((w.alloc a).alloc b).drew:=(b_.alloc w9 _).drew
theorem cM(w:World)(a:Obj):Q3 w (w.alloc a).drew:=b_.drew
theorem fD{row:Option Nat}(d:w.heap[wb]?=some (.cells cw MG (0,0)))(e:Q3 w w2)(f:w2.grownBy w3 row)(g:∀k,row=some k->∃a,w.heap[k]?=some (.cells a Tr (0,0)))(h:Tr≠MG)(o:Nat)(v:Value)(c:cw[o]?=some v) :w3.cell? ⟨wb,o,none⟩=some v/\w3.frozen? ⟨wb,o,none⟩=false/\∀u:Value,(w3.setCell ⟨wb,o,none⟩ u).cell? ⟨wb,o,none⟩=some u:=by have b:=mJ d e f g h;refine⟨(aA b o).trans c,aF b o,fun u=>?_⟩;rw [aA (aD b o u) o];have:=(Array.getElem?_eq_some_iff.1 c).1;simp [this]
theorem tH{g H cap N:Nat}(h:Value.ownBlock lv=some g\/g=H)(b:N<=H):∀k,Value.ownBlock (.slice (some ⟨g,0,none⟩) n cap)=some k->lv.ownBlock=some k\/N<=k:=by intro k a;simp only [Value.ownBlock,o_] at a;subst a;exact h.imp id (fun e=>by omega)
theorem uB(w:World)(wb:Nat)(M:Q5)(W:PW)(x:PV)(h:RW w wb M W)(y:W.places.length<=1000000000) :Q2 35 #[Q0 wb,bT x] w fun e m=>e=.returned (Q1 W.places.length)/\∃n,RW m wb n {W with places:=W.places++[x]}/\Stp M w n m:=by
 obtain⟨s,f,g,i,j⟩:=info_parts Tryz.TU;obtain⟨z,A,B,k,C,D,E,rfl,h⟩:=h;have H:=h_ h;have l:=aB h.blk;have F:w.cell? ⟨wb,3,none⟩=some k:=aA h.blk 3;obtain⟨G,I,J,K⟩:=bM (o:=3) l;clear h;unfold bT AM;go_enter func35,ntmps35;go_wp2_with fail
 go_region_law ((refine step_append_lies _ m6 _ _ _ m6 0 81 s _ 3 40 underlying52 f g i j rfl x8 k W.places.length (W.places.flatMap cZ) m6 (((H.pl.alloc _).alloc _).drew) ⟨w.heap.size+1,0,none⟩ 1 1 (cZ x) m6 m6 (World.news_of_block (cs:=#[AM (vK x),Q1 (vN x),AM (vS x)]) (t:=81) (fr:=(0,0)) (zN w _ _ _)) (by simp [Value.oneCell',cZ,AM]) x8 o6 x8 w9 (w.heap.size+2) w9 ?_;intro L p N b a c d;obtain⟨O,P,Q⟩:=fD H.blk (jV w _ _) a (aN H.pl) w8 3 k rfl))
 all_goals
  obtain⟨q,r⟩:=H.NO (jV w _ _) a _ x b (tH c x8);have u:=h_ q;have v:=h_ r;clear q r b a c d H;go_wp2_with fail;go_ret;exact⟨k7,_,⟨_,_,_,_,_,_,_,rfl,u⟩,v⟩
theorem EV.after{X:World}{W':PW}{pv' qv' cv' lv' gv':Value}(h:EV w wb W pv qv cv lv gv qs cs)(a:EV X wb W' pv' qv' cv' lv' gv' qs cs)(c:Stp (CQ wb [pv,qv,cv,lv,gv]) w (CQ wb [pv',qv',cv',lv',gv']) X)
  (z:W'.procs=W.procs) (A:W'.AG=W.AG) {R:Nat} (b:X.grownBy w' (some R)) (F:w.heap.size<=R) (x:¬CQ wb [pv',qv',cv',lv',gv'] R):EV w' wb W' pv' qv' cv' lv' gv' qs cs/\Stp (CQ wb [pv,qv,cv,lv,gv]) w (CQ wb [pv',qv',cv',lv',gv']) w':=by
 have d:Stp (CQ wb [pv,qv,cv,lv,gv]) w (CQ wb [pv',qv',cv',lv',gv']) w' :=
  ⟨b.os.trans c.os,b.tape.trans c.tape,b.output.trans c.output,t_ c.size b.size,fun k y m=>by
   obtain⟨B,C⟩:=c.block k y m
   exact⟨(b.block k (l_ y c.size) r7).trans B,C⟩⟩
 have f:∀{T:TypeId} {o:Nat} {v:Value} {n:Nat} {q:List Value},v∈[pv',qv',cv',lv',gv']->X.ownsRow 0 T o v n q->w'.ownsRow 0 T o v n q:=by
  intro T o v n q D h;refine⟨h.1,?_⟩;rcases h.2 with m | ⟨g,r,s,rfl,E,j,l⟩
  ·exact .inl m
  ·refine .inr ⟨g,r,s,rfl,E,(b.block g (aB j) ?_).trans j,l⟩;intro e;have e:g=R:=by simpa using e
   subst e;exact x (.inr ⟨_,D,rfl⟩)
 have t:wb≠R:=fun e=>x (.inl e.symm);refine⟨h.upd d ((b.block wb (aB a.blk) (by simpa using t)).trans a.blk) (f w9 a.pr) (f w9 a.pc) (f w9 a.cn) (f w9 a.pl) (f w9 a.gl) a.out (fun i p u=>.inl ⟨by rw [<- z];exact u,rfl,rfl⟩) (fun i G u=>.inl ⟨by rw [<- A];exact u,rfl⟩),d⟩
theorem jU(w:World)(a b c d:Obj):Q3 w ((((w.alloc a).alloc b).alloc c).alloc d).drew:=(((b_.alloc w9 _).alloc r7 _).alloc r7 _).drew
theorem B_(w:World)(a b c:Obj)(cs:Array Value)(T:TypeId):((((w.alloc a).alloc b).alloc c).alloc (.cells cs T)).drew.heap[w.heap.size+3]?=some (.cells cs T (0,0)):=by have:=heap_alloc_new (((w.alloc a).alloc b).alloc c) (.cells cs T);rw [show(((w.alloc a).alloc b).alloc c).heap.size=w.heap.size+3 from by simp] at this;exact this
theorem YW{o:Nat}(e:b<w.heap.size)(a c d f:Obj):(((w.alloc a).alloc c).alloc d).cell? ⟨b,o,none⟩=w.cell? ⟨b,o,none⟩/\((((w.alloc a).alloc c).alloc d).alloc f).cell? ⟨b,o,none⟩=w.cell? ⟨b,o,none⟩/\((((w.alloc a).alloc c).alloc d).alloc f).frozen? ⟨b,o,none⟩=w.frozen? ⟨b,o,none⟩:=by have g:Q3 w (((w.alloc a).alloc c).alloc d):=(b_.alloc w9 _).alloc r7 _;have h:=g.alloc r7 f;exact⟨g.cell (p:=⟨b,o,none⟩) e,h.cell (p:=⟨b,o,none⟩) e,h.frozen (p:=⟨b,o,none⟩) e⟩
theorem aO{c:Func}{p:Tmp}{ty:TypeId}(h:c.results=#[.cell p ty])(b:Array Value)(P:Program)(w:World) :(results c b).run P w=((asAddr (b.getD p undef)).run P w).andThen fun a d=>(loadVar ty a).run P d:=by simp only [results,h];simp [Sem.run_bind]
theorem new3(w:World)(a b:Obj)(cs:Array Value)(T:TypeId)(c:Obj):((((w.alloc a).alloc b).alloc (.cells cs T)).alloc c).drew.heap[w.heap.size+2]?=some (.cells cs T (0,0)):=by have:=heap_alloc_new ((w.alloc a).alloc b) (.cells cs T);rw [show((w.alloc a).alloc b).heap.size=w.heap.size+2 from by simp] at this;show((((w.alloc a).alloc b).alloc (.cells cs T)).alloc c).heap[w.heap.size+2]?=_;rw [k_ (aB this),this]
theorem wO{row:Option Nat}{o:Obj}(b:w2.grownBy w3 row)(a:w2.heap[k]?=some o)(c:row=some k->False):w3.heap[k]?=some o:=(b.block k (aB a) (fun e=>c e.symm)).trans a
theorem tV{o:Obj}(b:w3.heap[k]?=some o)(a:k≠wb)(i:Nat)(v:Value):(w3.setCell ⟨wb,i,none⟩ v).heap[k]?=some o:=by rw [Below.heap_setCell _ _ _ _ (fun e=>a a6),b]
theorem jM(h:EV w wb W pv qv cv lv gv qs cs){sl:Value}(c:∀x∈l,x∈[pv,qv,cv,lv,gv]\/x=sl){R:Nat}(j:w.heap.size<=R)(d:sl.ownBlock≠some R):¬CQ wb l R:=by
 have a:∀k,CQ wb [pv,qv,cv,lv,gv] k->k<w.heap.size:=fun k f=>RW.lt ⟨_,_,_,_,_,_,_,rfl,h⟩ f;rintro(e | ⟨x,g,b⟩)
 ·have:=aB h.blk;omega
 ·rcases c x g with i | rfl
  ·have:=a R (.inr ⟨x,i,b⟩);omega
  ·exact d b
theorem FA{X:World}{R:Nat}{c0 c1 c2:Value}(h:X.heap[R]?=some (.cells #[c0,c1,c2] T (0,0))):X.cell? ⟨R,0,none⟩=some c0/\X.cell? ⟨R,1,none⟩=some c1/\X.cell? ⟨R,2,none⟩=some c2/\X.frozen? ⟨R,0,none⟩=false/\X.frozen? ⟨R,1,none⟩=false/\X.frozen? ⟨R,2,none⟩=false /\
  (∀a:Value,(X.setCell ⟨R,0,none⟩ a).cell? ⟨R,1,none⟩=some c1/\(X.setCell ⟨R,0,none⟩ a).frozen? ⟨R,1,none⟩=false) /\
  (∀a b:Value,((X.setCell ⟨R,0,none⟩ a).setCell ⟨R,1,none⟩ b).cell? ⟨R,2,none⟩=some c2/\((X.setCell ⟨R,0,none⟩ a).setCell ⟨R,1,none⟩ b).frozen? ⟨R,2,none⟩=false) /\
  (∀a b c:Value,(((X.setCell ⟨R,0,none⟩ a).setCell ⟨R,1,none⟩ b).setCell ⟨R,2,none⟩ c).cell? ⟨R,0,none⟩=some a/\(((X.setCell ⟨R,0,none⟩ a).setCell ⟨R,1,none⟩ b).setCell ⟨R,2,none⟩ c).cell? ⟨R,1,none⟩=some b/\(((X.setCell ⟨R,0,none⟩ a).setCell ⟨R,1,none⟩ b).setCell ⟨R,2,none⟩ c).cell? ⟨R,2,none⟩=some c):=by
 refine⟨aA h 0,aA h 1,aA h 2,aF h 0,aF h 1,aF h 2,fun a=>⟨?_,?_⟩,fun a b=>⟨?_,?_⟩,fun a b c=>⟨?_,?_,?_⟩⟩
 ·exact aA (aD h 0 a) 1
 ·exact aF (aD h 0 a) 1
 ·exact aA (aD (aD h 0 a) 1 b) 2
 ·exact aF (aD (aD h 0 a) 1 b) 2
 ·exact aA (aD (aD (aD h 0 a) 1 b) 2 c) 0
 ·exact aA (aD (aD (aD h 0 a) 1 b) 2 c) 1
 ·exact aA (aD (aD (aD h 0 a) 1 b) 2 c) 2
theorem grown3(X:World)(R:Nat)(a b c:Value):X.grownBy (((X.setCell ⟨R,0,none⟩ a).setCell ⟨R,1,none⟩ b).setCell ⟨R,2,none⟩ c) (some R):=aC (aC (aE _ _ _ _) (aE _ _ _ _)) (aE _ _ _ _)
theorem n6(l:List PV)(k:Nat)(x:PV)(a:k<l.length):(l.set k x).flatMap cZ=(((l.flatMap cZ).set (k*3) (AM (vK x))).set (k*3+1) (.int .i64 (vN x))).set (k*3+2) (AM (vS x)):=by
 induction l generalizing k with
 | nil=>simp at a
 | cons y l b =>
  cases k with
  | zero=>simp [cZ]
  | succ k =>have:=b k zM1;simp only [List.set_cons_succ,List.flatMap_cons,this];simp only [cZ,List.cons_append,List.nil_append];rw [show(k+1)*3=k*3+3 from by omega];simp [List.set_cons_succ,show k*3+3+1=k*3+1+3 from by omega,show k*3+3+2=k*3+2+3 from by omega]
theorem take_set{α:Type}(l:List α)(n i:Nat)(a:α):(l.set i a).take n=(l.take n).set i a:=by rw [List.take_set]
def gN(X:World)(g o:Nat)(x:PV):World:=((X.setCell ⟨g,o,none⟩ (AM (vK x))).setCell ⟨g,o+1,none⟩ (.int .i64 (vN x))).setCell ⟨g,o+2,none⟩ (AM (vS x))
theorem EV.K0(h:EV w wb W pv qv cv lv gv qs cs)(g b:Nat)(y:lv=.slice (some ⟨g,0,none⟩) W.places.length b)(k:Nat)(m:k<W.places.length)(x:PV) :EV (gN w g (k*3) x) wb {W with places:=W.places.set k x} pv qv cv lv gv qs cs/\Stp (CQ wb [pv,qv,cv,lv,gv]) w (CQ wb [pv,qv,cv,lv,gv]) (gN w g (k*3) x):=by
 subst y;have z:=aN h.pl;have n:=h.pl;obtain⟨l,n⟩:=n;rcases n with⟨e,_⟩ | ⟨F,t,f,e,_,u,A,B,o,q⟩
 ·simp at e
 ·simp only [Value.slice.injEq,o_,Addr.mk.injEq,and_true] at e;obtain⟨rfl,_,rfl⟩:=e;have C:(gN w g (k*3) x).heap[g]?=some (.cells (((f.setIfInBounds (k*3) (AM (vK x))).setIfInBounds (k*3+1) (.int .i64 (vN x))).setIfInBounds (k*3+2) (AM (vS x))) TV (0,0)) :=aD (aD (aD u _ _) _ _) _ _;have a:w.grownBy (gN w g (k*3) x) (some g):=aC (aC (aE _ _ _ _) (aE _ _ _ _)) (aE _ _ _ _);have c:Chg w (gN w g (k*3) x) wb (some g):=⟨a.os,a.tape,a.output,a.size,fun k m _ D=>a.block k m D⟩
  have d:∀j,some g=some j->∃f,w.heap[j]?=some (.cells f TV (0,0)):=fun j e=>z j e;have v:Stp (CQ wb [pv,qv,cv,.slice (some ⟨g,0,none⟩) W.places.length b,gv]) w (CQ wb [pv,qv,cv,.slice (some ⟨g,0,none⟩) W.places.length b,gv]) (gN w g (k*3) x) :=c.AQ (fun j E=>.inr ⟨.slice (some ⟨g,0,none⟩) W.places.length b,w9,E⟩) (fun _ _ h=>h);have r:wb≠g:=fun e=>by subst e;exact absurd (aK u h.blk).2 w8
  refine⟨h.upd v ((a.block wb (aB h.blk) (by simpa using r)).trans h.blk) (aL h.pr c h.blk d w8 w8) (aL h.pc c h.blk d w8 w8) (aL h.cn c h.blk d w8 w8) ?_ (aL h.gl c h.blk d w8 w8) h.out (fun i p s=>.inl ⟨s,rfl,rfl⟩) (fun i G s=>.inl ⟨s,rfl⟩),v⟩;refine⟨by rw [List.length_set,n6 _ _ _ m];simpa using l,.inr ⟨g,b,_,by rw [List.length_set],Nat.zero_le _,C,by rw [List.length_set];exact A,B,by simpa using o,?_⟩⟩;rw [List.length_set,n6 _ _ _ m,<-q];simp only [Array.toList_setIfInBounds];rw [take_set,take_set,take_set]
theorem mC(l:Env)(s:AE)(k:Nat)(h:Pl.find l s=some k):∃b∈l,b.2=k:=by
 induction l with
 | nil=>simp [Pl.find] at h
 | cons b l d =>
  unfold Pl.find at h
  cases a:Pl.find l s with
  | some j =>rw [a] at h;obtain⟨c,f,e⟩:=d (by rw [a];exact h);exact⟨c,List.mem_cons_of_mem _ f,e⟩
  | none =>
   rw [a] at h;dsimp only at h;split at h
   ·exact⟨b,List.mem_cons_self,i_ h⟩
   ·simp at h
theorem TK(h:EV w wb W pv qv cv lv gv qs cs)(f:k<W.places.length):∃g b,lv=.slice (some ⟨g,0,none⟩) W.places.length b/\W.places.length<=b/\g<w.heap.size/\g≠wb/\∃x,W.places[k]?=some x/\w.cell? ⟨g,k*3,none⟩=some (AM (vK x))/\w.cell? ⟨g,k*3+1,none⟩=some (Q1 (vN x))/\w.cell? ⟨g,k*3+2,none⟩=some (AM (vS x))/\∀o,w.frozen? ⟨g,o,none⟩=false:=by
 rcases h.pl.2 with⟨_,l⟩ | ⟨g,b,i,e,_,d,j,_⟩
 ·omega
 ·have c:W.places[k]?=some (W.places[k]):=g_ f;have a:=h.pl.cells (g:=g) zQ7;refine⟨g,b,e,j,aB d,fun e=>by subst e;exact absurd (aK d h.blk).2 w8,_,c,?_,?_,?_,fun o=>aF d o⟩
  ·have:=a (k*3) _ (aX cZ 3 (fun _=>rfl) _ _ 0 _ c w8);rwa [Addr.add_lit,Nat.zero_add] at this
  ·have:=a (k*3+1) _ (aX cZ 3 (fun _=>rfl) _ _ 1 _ c w8);rwa [Addr.add_lit,Nat.zero_add] at this
  ·have:=a (k*3+2) _ (aX cZ 3 (fun _=>rfl) _ _ 2 _ c w8);rwa [Addr.add_lit,Nat.zero_add] at this
theorem UF(h:EV w wb W pv qv cv lv gv qs cs):DF (fun _=>False) w gv W.globals:=gT h.gl
theorem qH(w:World)(wb:Nat)(M d:Q5)(W:PW)(ev:Value)(env:Env)(s:AE)(h:RW w wb M W)(f:DF d w ev env)(l:env.length<=1000000000000)(m:W.globals.length<=1000000000000) :Q2 43 #[Q0 wb,ev,.string ⟨s.toArray⟩] w fun e b=>e=.returned (Q1 (fW (Pl.DL W env s)))/\w=b:=by
 obtain⟨n,o,p,q,g,r,t,rfl,h⟩:=h;have H:=h_ h;have u:w.cell? ⟨wb,4,none⟩=some g:=aA h.blk 4;have i:=h_ f;clear h f;go_enter func43,ntmps43;go_wp2_with fail;refine(lM d _ _ env s i x8).mono ?_;rintro e b ⟨rfl,rfl⟩
 cases a:Pl.find env s with
 | some k =>
  have c:Hid (Pl.DL W env s=some k):=by simp [Hid,Pl.DL,a]
  have j:(0:Int)<=(k:Int):=by omega
  simp only [d6];clear a;exact zC4
 | none =>
  have c:Hid (Pl.DL W env s=Pl.find W.globals s):=by simp [Hid,Pl.DL,a]
  simp only [show fW none=(-1:Int) from rfl];clear a;go_wp2_with fail;refine(lM _ _ _ W.globals s (UF H) x8).mono ?_;rintro e b ⟨rfl,rfl⟩;exact zC4
theorem qI(w:World)(wb:Nat)(M:Q5)(W:PW)(s:AE)(x:PV)(h:RW w wb M W)(U:LG W W.globals)(V:W.places.length<=1000000000)(h2:W.globals.length<=1000000000) :Q2 20 #[Q0 wb,.string ⟨s.toArray⟩,bT x] w fun e z=>e=.returned (.tuple #[])/\∃K,RW z wb K (Pl.bind W s x)/\Stp M w K z:=by
 obtain⟨X,A,B,C,D⟩:=info_parts Tryz.G_;obtain⟨Y,Z,cv,L,N,qs,cs,rfl,h⟩:=h;have l:=aB h.blk;have c4:w.cell? ⟨wb,4,none⟩=some N:=aA h.blk 4;have c3:w.cell? ⟨wb,3,none⟩=some L:=aA h.blk 3;obtain⟨a1,_,_,_⟩:=bM (o:=4) l;obtain⟨b1,_,_,_⟩:=bM (o:=3) l;have H:=h_ h;clear h;have m:∀o:Obj,Q3 w (w.alloc o):=fun o=>b_;have E:=h_ m;have O:Hid (∀o:Obj,EV (w.alloc o) wb W Y Z cv L N qs cs):=fun o=>H.later (fun k n=>(E o).block k n) (Stp.AA (E o));clear m;unfold bT AM;go_enter func20,ntmps20;go_wp2_with fail;refine(lM _ _ _ W.globals s (UF (O _)) x8).mono ?_;rintro e z ⟨rfl,rfl⟩
 cases p:Pl.find W.globals s with
 | some k =>
  have F:Hid (Pl.bind W s x={W with places:=W.places.set k x}):=by simp [Hid,Pl.bind,p]
  obtain⟨b,P,rfl⟩:=mC _ _ _ p;have n:=U b P;simp only [d6];obtain⟨g,G,rfl,Q,i,aa,y,hy,d0,d1,d2,d3⟩:=TK H n;have HK:=h_ n;have ab:((b.2:Nat):Int)<(W.places.length:Int):=by omega
  obtain⟨e0,g0,_,_⟩:=bM (o:=b.2*3) i;obtain⟨e1,g1,_,_⟩:=bM (o:=b.2*3+1) i;obtain⟨e2,g2,_,_⟩:=bM (o:=b.2*3+2) i;clear p P n hy;go_wp2_with fail
  go_region
  all_goals
   go_wp2_with fail
   (try simp only [Exit.inBlock,Exit.then])
   refine bodyPost_ret (results_none rfl _ _ _) rfl ?_;rw [F.out];obtain⟨z1,z2⟩:=H.K0 g G rfl b.2 HK x;have R:=cM (gN w g (b.2*3) x) (.cells #[AM (vK x),Q1 (vN x),AM (vS x)] 81);exact⟨rfl,_,RW.later ⟨_,_,_,_,_,_,_,rfl,z1⟩ R,z2.trans (Stp.AA R)⟩
 | none =>
  have F:Hid (Pl.bind W s x={W with places:=W.places++[x],globals:=W.globals++[(s,W.places.length)]}):=by simp [Hid,Pl.bind,p]
  simp only [show fW none=(-1:Int) from rfl];clear p;go_wp2_with fail;refine(uB _ wb _ W x ⟨_,_,_,_,_,_,_,rfl,O _⟩ V).mono ?_;rintro e q ⟨rfl,M1,⟨ac,ad,ae,af,c,ag,ah,rfl,d⟩,r⟩;have I:q.cell? ⟨wb,4,none⟩=some c:=aA d.blk 4;have u:=aB d.blk;have f:=h_ d;have J:=(show Hid _ from(Stp.AA (E _)).trans r)
  clear d r c3 c4 a1 b1;have f4:∀o:Obj,(q.alloc o).cell? ⟨wb,4,none⟩=some c:=fun o=>((bM (o:=4) u).1 o).trans I;go_wp2_with (first | (at_builtin;refine wpList_append_lies _ rfl _ _ 53 rfl 0 120 X _ 2 24 underlying53 A B C D rfl w8 c W.globals.length (W.globals.flatMap iM) rfl (f.gl.alloc _) ⟨q.heap.size,0,none⟩ 1 1 (iM (s,W.places.length)) rfl rfl (World.news_of_block (cs:=#[AM s,Q1 (W.places.length:Nat)]) (t:=120) (fr:=(0,0)) (heap_alloc_new q _)) (by simp [Value.oneCell',iM,AM]) w8 o6 x8 w9 (q.heap.size+1) w9 ?_;intro g3 S w3 j a v T;obtain⟨k1,k2,k3⟩:=fD f.blk b_ a (aN f.gl) w8 4 c rfl));obtain⟨q1,q2⟩:=f.MU b_ a _ (s,W.places.length) j (tH v x8)
  go_end0
  rw [F.out];exact⟨rfl,_,⟨_,_,_,_,_,_,_,rfl,q1⟩,J.trans q2⟩
end
end Go.Proofs.YtbgghmjmcapmlaaGreatDoor
